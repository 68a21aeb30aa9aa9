"""Tokens: words, numerals and signs, and the texts in which they stand."""

from slipreach.errors import BadText

LETTERS = "abcdefghijklmnopqrstuvwxyz"
DIGITS = "0123456789"
LONGEST = 12
NUMBERS = 10 ** 12
SIGNS = ("=", ";", ",", "[", "]")
SORTS = ("word", "number", "=", ";", ",", "[", "]")


def is_one_of(thing, words):
    """Whether any object is one of some strings."""
    return isinstance(thing, str) and thing in words


def consists_of(thing, characters):
    """Whether an object is a string of 1 to 12 of these characters."""
    if not isinstance(thing, str) or not 1 <= len(thing) <= LONGEST:
        return False
    return all([character in characters for character in thing])


def is_word(thing):
    """Whether any object is a word."""
    return consists_of(thing, LETTERS)


def is_numeral(thing):
    """Whether any object is a numeral."""
    return consists_of(thing, DIGITS) and (thing == "0" or thing[0] != "0")


def is_integer(thing):
    """Whether any object is an integer; True and False are none."""
    return isinstance(thing, int) and not isinstance(thing, bool)


def is_number(thing):
    """Whether any object is a number that a numeral stands for."""
    return is_integer(thing) and 0 <= thing < NUMBERS


def is_pair(thing):
    """Whether any object is a pair: two words with one blank between."""
    if not isinstance(thing, str):
        return False
    first, blank, second = thing.partition(" ")
    return blank == " " and is_word(first) and is_word(second)


def is_item(thing):
    """Whether any object is an item of a list: a word or a pair."""
    return is_word(thing) or is_pair(thing)


def is_list_value(thing):
    """Whether any object is a list as a value: a tuple of items."""
    return isinstance(thing, tuple) and all([is_item(item) for item in thing])


def is_sign(thing):
    """Whether any object is one of the five signs."""
    return is_one_of(thing, SIGNS)


def sort_of(thing):
    """The sort of a token; None for every other object."""
    if is_sign(thing):
        return thing
    if is_word(thing):
        return "word"
    if is_numeral(thing):
        return "number"
    return None


def run_end(text, at):
    """The index behind the longest run of letters and digits that begins at an index."""
    behind = at
    while behind < len(text) and (text[behind] in LETTERS or text[behind] in DIGITS):
        behind += 1
    return behind


def tokens(text):
    """The file of a text. Raises BadText(at)."""
    file = []
    at = 0
    while at < len(text):
        # A sign, and also a wrong character, makes a piece of its own.
        behind = max(run_end(text, at), at + 1)
        piece = text[at:behind]
        if piece not in (" ", "\n"):
            if sort_of(piece) is None:
                raise BadText(at)
            file.append(piece)
        at = behind
    return file


def text_of(file):
    """The text of a file: its tokens with one blank between two."""
    return " ".join(file)
