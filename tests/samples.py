"""Languages, files and entries that several tests use."""

import itertools
import random

from slipreach.checking import checked, entries_left
from slipreach.editions import Edition
from slipreach.errors import BadMove, SettingsError, Unreadable
from slipreach.kinds import Setting
from slipreach.language import Language
from slipreach.layers import joined
from slipreach.moves import Add, Drop, Preset, Rename, Split, Wrap
from slipreach.reader import read
from slipreach.rowkinds import Table
from slipreach.schema import Schema

WORDS = ["a", "b", "yes", "c"]
NUMERALS = ["0", "1", "12"]
SIGNS = ["=", ";", ",", "[", "]"]
RULE_WORDS = ["left", "doubled", "swapped", "word", "number", "sign"]


def all_languages():
    """Every language that there is."""
    for equals, end, comma, last, bare, nothing in itertools.product(
            ("must", "may"), ("must", "between", "may"), ("must", "may", "joins"),
            ("never", "may", "must"), (False, True), (False, True)):
        for count in range(4):
            for doubled in itertools.combinations("=;,", count):
                yield Language(equals=equals, end=end, comma=comma, last=last,
                               doubled=doubled, bare=bare, nothing=nothing)


def some_languages(count, seed):
    return random.Random(seed).sample(list(all_languages()), count)


def token_for(chance, sort, words=WORDS, numerals=NUMERALS):
    if sort == "word":
        return chance.choice(words)
    return chance.choice(numerals) if sort == "number" else sort


def some_file(chance, language, least):
    """A readable file of about so many tokens or more."""
    while True:
        file, state = [], "start"
        while len(file) < least + 9:
            sorts = language.next_sorts(state)
            if "end" in sorts and len(file) >= least:
                return file
            sort = chance.choice([sort for sort in sorts if sort != "end"])
            file.append(token_for(chance, sort))
            state = language.step(state, sort)


def all_files(language, most, words, numerals):
    """Every readable file of at most so many tokens out of some words and numerals."""
    return files_of(language, most, lambda sort, at: {"word": words, "number": numerals}.get(sort, [sort]))


def files_of(language, most, choices):
    """Every readable file of at most so many tokens, each one of the choices for its sort and index."""
    rows = [((), "start")]
    for count in range(most + 1):
        for file, state in rows:
            if language.closes(state):
                yield list(file)
        if count < most:
            rows = [(file + (token,), language.step(state, sort))
                    for file, state in rows for sort in language.next_sorts(state) if sort != "end"
                    for token in choices(sort, count)]


def some_items(chance, language):
    def item():
        if language.comma == "joins" and chance.random() < 0.4:
            return chance.choice(WORDS) + " " + chance.choice(WORDS)
        return chance.choice(WORDS)
    return tuple(item() for _ in range(chance.randint(1, 3)))


def some_entry(chance, language, is_nothing_allowed=True):
    while True:
        value = chance.choice([None, "yes", "b", 3, (), some_items(chance, language)])
        if value is not None or (language.nothing and is_nothing_allowed):
            return chance.choice(WORDS), value


def read_or_none(language, file):
    try:
        return read(language, file)
    except Unreadable:
        return None


def some_setting(chance, name, elders=()):
    """A setting of any kind, with any other parts that fit together."""
    kind = chance.choice(["choice", "word", "number", "list", "list"])
    words = chance.sample(["p", "q", "yes"], chance.randint(1, 3)) if kind == "choice" else ()
    defaults = {"choice": words, "word": ["p", "yes"], "number": [0, 7], "list": [(), ("p",), ("p", "q")]}[kind]
    default = chance.choice([None, chance.choice(list(defaults))])
    is_list = kind == "list"
    return Setting(name, kind, words=words, default=default, elders=elders,
                   join=is_list and chance.random() < 0.5, filled=is_list and chance.random() < 0.3,
                   demand=chance.choice(["no", "no", "some", "top"]) if default is None else "no")


def some_rules(chance):
    return {"unknown": chance.choice(["refuse", "pass", "pass"]),
            "doubled": chance.choice(["refuse", "first", "last", "join"]),
            "wrong": chance.choice(["refuse", "lack", "lack"]),
            "nothing": chance.choice(["clears", "lacks"]), "empty": chance.choice(["given", "lacks"])}


def some_schema(chance, count=None):
    """A schema of settings x, y, z, v, some with elders such as ox."""
    names = ["x", "y", "z", "v"][:count or chance.randint(1, 4)]
    settings = [some_setting(chance, name, ("o" + name,) if chance.random() < 0.4 else ()) for name in names]
    return Schema(settings, **some_rules(chance))


def some_value(chance, is_nothing_allowed=True):
    things = ["p", "q", "yes", 0, 7, (), ("p",), ("q", "p")]
    return chance.choice(things + [None]) if is_nothing_allowed else chance.choice(things)


def some_row(chance, schema, most, is_nothing_allowed=True):
    """Entries of a schema that it takes, and of words that it does not know if it passes them over."""
    words = [word for setting in schema for word in (setting.name, *setting.elders)] + ["odd"]
    row = [(chance.choice(words), some_value(chance, is_nothing_allowed)) for _ in range(chance.randint(0, most))]
    return entries_left(schema, row)


def some_checks(chance, schema, count, most=4):
    """Checked files, or None, for so many layers."""
    return [None if chance.random() < 0.15 else checked(schema, some_row(chance, schema, most))
            for _ in range(count)]


def settings_or_none(schema, files):
    """The settings of rows of entries, or None, for each layer; None if the schema refuses them."""
    try:
        return joined(schema, [None if row is None else checked(schema, row) for row in files])
    except SettingsError:
        return None


def some_move(chance, schema):
    """A move that a schema perhaps refuses."""
    words = [word for setting in schema for word in (setting.name, *setting.elders)]
    word = chance.choice(words + ["odd"])
    new = chance.choice(words + ["k", "m", "n"])
    default = chance.choice([None, "p", "yes", 7, (), ("p",), ("q",)])
    elders = [elder for elder in "lj" if elder != new][:chance.randint(0, 2)]
    return chance.choice([Rename(word, new, kept=chance.random() < 0.5), Drop(word), Preset(word, default),
                          Wrap(word), Wrap(word), Split(word, new), Add(some_setting(chance, new, elders))])


def some_edition(chance, elder, most):
    """An edition of moves, of which each one is taken behind the others."""
    edition = Edition(elder, [])
    moves = []
    for _ in range(chance.randint(0, most)):
        move = some_move(chance, edition.later)
        try:
            edition = Edition(elder, moves + [move])
        except BadMove:
            continue
        moves.append(move)
    return edition


def some_direct_edition(chance, elder):
    """An edition that goes by words from a schema to one like it, with other words."""
    while True:
        words = [word for setting in elder for word in (setting.name, *setting.elders)] + ["k", "m", "n", "l"]
        chance.shuffle(words)
        settings = [chance.choice(list(elder)).changed(name=words.pop(), elders=[words.pop()][:chance.randint(0, 1)])
                    for _ in range(chance.randint(1, min(4, len(words) // 2)))]
        try:
            settings = [setting if chance.random() < 0.7 else some_setting(chance, setting.name, setting.elders)
                        for setting in settings]
            rules = elder.rules()
            return Edition.direct(elder, Schema(settings, **rules))
        except SettingsError:
            continue


BUILDER_KINDS = {"w": "word", "v": "word", "n": "number", "ids": "list", "tags": "list"}
TABLES = [Table(["owner"]), Table([], ["size"]), Table(["owner", "maker"]), Table(["owner"], ["size"])]


class TextWriter:
    """Writes random builder texts that are right."""

    def __init__(self, chance, table, lists=("ids", "tags"), most=14):
        self.chance, self.table, self.lists = chance, table, lists
        self.quotes = chance.sample(["'a'", "'b'", "'all'", "'a_b'", "'b_a'", "'c'"], chance.randint(1, 4))
        self.digits = chance.sample(["0", "1", "4", "17"], chance.randint(1, 3))
        self.left, self.loops = chance.randint(1, most), 2

    def text(self):
        rows = self.block(0, False)
        return "\n".join([*rows, "take"])

    def block(self, depth, is_inside):
        rows = []
        while self.left > 0 and (depth == 0 or not rows or self.chance.random() < 0.6):
            rows.extend(self.line(depth, is_inside))
        return rows

    def line(self, depth, is_inside):
        self.left -= 1
        word = self.chance.choice(["and", "or", "or", "and", "not", "clear", "if", "if", "for", "for", "refuse", "end"])
        if word == "for" and (is_inside or self.loops == 0 or depth == 4 or self.left == 0):
            word = "or"
        if word == "if" and (depth == 4 or self.left == 0):
            word = "and"
        if word == "end":
            word = self.chance.choice(["break", "skip"]) if is_inside else "or"
        if word == "refuse" and self.chance.random() < 0.6:
            word = "or"
        head = "  " * depth
        if word in ("and", "or"):
            words = [self.chance.choice(["", "", "guard "]), word, self.chance.choice([" ", " ", " not "])]
            return [head + "".join(words) + self.condition(is_inside)]
        if word == "for":
            self.loops -= 1
            return [f"{head}for @{self.chance.choice(self.lists)}", *self.block(depth + 1, True)]
        if word == "if":
            rows = [f"{head}if {self.chance.choice(['', 'no '])}{self.question(is_inside)}",
                    *self.block(depth + 1, is_inside)]
            if self.chance.random() < 0.4 and self.left > 0:
                rows.extend([head + "else", *self.block(depth + 1, is_inside)])
            return rows
        return [head + word]

    def condition(self, is_inside):
        column = self.chance.choice(self.table.columns)
        if self.chance.random() < 0.1:
            return self.chance.choice(["every", "none"])
        if column in self.table.numbers:
            operand = self.chance.choice(self.digits + ([] if is_inside else ["@n"]))
            return f"{column} {self.chance.choice(['is', 'below', 'least'])} {operand}"
        if is_inside:
            return f"{column} is {self.chance.choice(['item', 'item', self.chance.choice(self.quotes)])}"
        if self.chance.random() < 0.4:
            return f"{column} in @{self.chance.choice(self.lists)}"
        return f"{column} is {self.chance.choice(['@w', '@v', self.chance.choice(self.quotes)])}"

    def question(self, is_inside):
        quote, digits = self.chance.choice(self.quotes), self.chance.choice(self.digits)
        if is_inside:
            return self.chance.choice([f"item is {quote}", f"item is {quote}", "blank"])
        sign = self.chance.choice(["is", "below", "least"])
        return self.chance.choice([f"given @{self.chance.choice(['w', 'n', 'ids', 'v', 'tags'])}",
                                   f"some @{self.chance.choice(self.lists)}", f"@w is {quote}", f"@n {sign} {digits}",
                                   "blank"])


def some_text(chance, table, **more):
    return TextWriter(chance, table, **more).text()


def some_item(chance):
    return chance.choice(["a", "b", "all", "a b", "b a", "c", "zz"])


def some_table_row(chance, table):
    row = {column: some_item(chance) for column in table.words}
    row.update({column: chance.choice([0, 1, 2, 3, 4, 5, 16, 17, 18, 10 ** 30]) for column in table.numbers})
    return row


def some_values(chance):
    values = {"w": chance.choice(["a", "b", "q"]), "v": chance.choice(["a", "c"]), "n": chance.choice([0, 1, 4, 18]),
              "ids": [some_item(chance) for _ in range(chance.randint(0, 4))],
              "tags": tuple(some_item(chance) for _ in range(chance.randint(0, 2)))}
    return {name: values[name] for name in values if chance.random() < 0.8}


class Ended(Exception):
    pass


class Interpreter:
    """Runs a builder text line by line, from the words of 6.8 and 6.9."""

    def __init__(self, text, row, values, working=None):
        self.rows = text.split("\n")
        self.row, self.values, self.working, self.item, self.ran = row, values, working, None, []

    def outcome(self):
        try:
            self.run(0, len(self.rows))
        except Ended:
            return "refused"
        return self.working

    def depth(self, at):
        return (len(self.rows[at]) - len(self.rows[at].lstrip(" "))) // 2

    def block_end(self, at):
        end = at + 1
        while end < len(self.rows) and self.depth(end) > self.depth(at):
            end += 1
        return end

    def run(self, at, end):
        """Runs the lines of one block; True if `break` or `skip` ended it, then told in self.left."""
        while at < end:
            parts = self.rows[at].split()
            self.ran.append(at)
            behind = self.block_end(at)
            if parts[0] in ("and", "or", "guard"):
                self.join(parts)
            elif parts[0] == "not":
                self.working = None if self.working is None else not self.working
            elif parts[0] == "clear":
                self.working = None
            elif parts[0] == "refuse":
                raise Ended()
            elif parts[0] in ("break", "skip"):
                self.left = parts[0]
                return True
            elif parts[0] == "if":
                other = behind
                has_else = behind < end and self.rows[behind].split() == ["else"]
                if has_else:
                    other = self.block_end(behind)
                if self.holds(parts[1:]):
                    if self.run(at + 1, behind):
                        return True
                elif has_else and self.run(behind + 1, other):
                    return True
                at = other
                continue
            elif parts[0] == "for":
                for item in self.values.get(parts[1][1:], []):
                    self.item = item
                    if self.run(at + 1, behind) and self.left == "break":
                        break
            at = behind
        return False

    def join(self, parts):
        guarded = parts[0] == "guard"
        word, *rest = parts[1:] if guarded else parts
        negated = rest[0] == "not"
        value = self.tested(rest[1:] if negated else rest)
        if negated and value is not None:
            value = not value
        if value is None and guarded:
            value = False
        if self.working is None:
            self.working = value
        elif value is not None:
            self.working = (self.working and value) if word == "and" else (self.working or value)

    def operand(self, token):
        if token == "item":
            return self.item
        if token.startswith("@"):
            return self.values.get(token[1:])
        return int(token) if token.isdigit() else token[1:-1].replace("_", " ")

    def compare(self, value, sign, wanted):
        return {"is": lambda: value == wanted, "below": lambda: value < wanted, "least": lambda: value >= wanted,
                "in": lambda: value in wanted}[sign]()

    def tested(self, parts):
        if len(parts) == 1:
            return parts == ["every"]
        wanted = self.operand(parts[2])
        return None if wanted is None else self.compare(self.row[parts[0]], parts[1], wanted)

    def holds(self, parts):
        if parts[0] == "no":
            return not self.holds(parts[1:])
        if parts == ["blank"]:
            return self.working is None
        if parts[0] == "given":
            return parts[1][1:] in self.values
        if parts[0] == "some":
            return len(self.values.get(parts[1][1:], [])) > 0
        value = self.operand(parts[0])
        return value is not None and self.compare(value, parts[1], self.operand(parts[2]))
