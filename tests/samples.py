"""Languages, files and entries that several tests use."""

import itertools
import random

from slipreach.errors import Unreadable
from slipreach.language import Language
from slipreach.reader import read

WORDS = ["a", "b", "yes", "c"]
NUMERALS = ["0", "1", "12"]
SIGNS = ["=", ";", ",", "[", "]"]
RULE_WORDS = ["left", "doubled", "swapped", "word", "number", "sign"]


def all_languages():
    """Every language that there is."""
    for equals, end, comma, last, bare, nothing in itertools.product(
            ("must", "may"), ("must", "between", "may"), ("must", "may", "joins"),
            ("never", "may", "must"), (False, True), (False, True)):
        for count in range(4):
            for doubled in itertools.combinations("=;,", count):
                yield Language(equals=equals, end=end, comma=comma, last=last,
                               doubled=doubled, bare=bare, nothing=nothing)


def some_languages(count, seed):
    return random.Random(seed).sample(list(all_languages()), count)


def token_for(chance, sort, words=WORDS, numerals=NUMERALS):
    if sort == "word":
        return chance.choice(words)
    return chance.choice(numerals) if sort == "number" else sort


def some_file(chance, language, least):
    """A readable file of about so many tokens or more."""
    while True:
        file, state = [], "start"
        while len(file) < least + 9:
            sorts = language.next_sorts(state)
            if "end" in sorts and len(file) >= least:
                return file
            sort = chance.choice([sort for sort in sorts if sort != "end"])
            file.append(token_for(chance, sort))
            state = language.step(state, sort)


def all_files(language, most, words, numerals):
    """Every readable file of at most so many tokens out of some words and numerals."""
    return files_of(language, most, lambda sort, at: {"word": words, "number": numerals}.get(sort, [sort]))


def files_of(language, most, choices):
    """Every readable file of at most so many tokens, each one of the choices for its sort and index."""
    rows = [((), "start")]
    for count in range(most + 1):
        for file, state in rows:
            if language.closes(state):
                yield list(file)
        if count < most:
            rows = [(file + (token,), language.step(state, sort))
                    for file, state in rows for sort in language.next_sorts(state) if sort != "end"
                    for token in choices(sort, count)]


def some_items(chance, language):
    def item():
        if language.comma == "joins" and chance.random() < 0.4:
            return chance.choice(WORDS) + " " + chance.choice(WORDS)
        return chance.choice(WORDS)
    return tuple(item() for _ in range(chance.randint(1, 3)))


def some_entry(chance, language, is_nothing_allowed=True):
    while True:
        value = chance.choice([None, "yes", "b", 3, (), some_items(chance, language)])
        if value is not None or (language.nothing and is_nothing_allowed):
            return chance.choice(WORDS), value


def read_or_none(language, file):
    try:
        return read(language, file)
    except Unreadable:
        return None
