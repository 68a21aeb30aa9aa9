"""Houses, rules and files that the tests of parts 8 to 10 use."""

from samples import RULE_WORDS, TABLES, all_languages, some_rules, some_text
from slipreach.beside import told_numbers, told_words
from slipreach.builder import Builder
from slipreach.errors import BadBuilder, BadSetting
from slipreach.house import BUILDER_KINDS, House
from slipreach.kinds import Setting
from slipreach.language import Language
from slipreach.rowkinds import Table
from slipreach.rules import SlipRule
from slipreach.schema import Schema
from slipreach.tokens import tokens

LANGUAGES = list(all_languages())
KINDS = {"ids": "list", "tags": "list", "w": "word", "v": "choice", "n": "number", "k": "word"}
OWNER = Table(["owner"])


# A list of which a builder with this text tells more than 60 sorts apart beside a row of two words.
MANY_TEXT = ("or owner in @ids\nor maker in @ids\nfor @ids\n  if item is 'a'\n    not\n  if item is 'b'\n    or every\n"
             "  if item is 'c'\n    break\nfor @ids\n  if item is 'd'\n    clear\n  if item is 'b'\n    not\n"
             "  if item is 'a'\n    if blank\n      or none\ntake")


def files_of(*texts):
    return [None if text is None else tokens(text) for text in texts]


def house_of(settings, text, table=OWNER, layers=1, language=None, **rules):
    """A house whose builder knows the kinds of all settings."""
    kinds = {setting.name: BUILDER_KINDS[setting.kind] for setting in settings}
    return House(language or Language(), Schema(settings, **rules), Builder(text, table, kinds), layers=layers)


def some_default(chance, kind, words):
    if chance.random() > 0.35:
        return None
    return chance.choice({"list": [(), ("a",), ("b", "all")], "word": ["a", "z"], "choice": words,
                          "number": [0, 1, 4]}[kind])


def some_part(chance, name, kind, elders):
    words = chance.sample(["a", "b", "c", "all"], chance.randint(1, 3)) if kind == "choice" else []
    default = some_default(chance, kind, words)
    return Setting(name, kind, words=words, default=default, elders=elders,
                   join=kind == "list" and chance.random() < 0.5, filled=kind == "list" and chance.random() < 0.3,
                   demand=chance.choice(["no", "no", "some", "top"]) if default is None else "no")


def plain_text(chance, table, kinds):
    """A builder text that reads all settings that the table has a column for."""
    rows = []
    for name in kinds:
        column = chance.choice(table.words) if table.words else None
        sign = chance.choice(["or", "or", "or", "and", "guard and", "or not"])
        if kinds[name] == "number" and table.numbers:
            rows.append(f"{sign} {table.numbers[0]} {chance.choice(['below', 'least', 'is'])} @{name}")
        elif kinds[name] == "word" and column is not None:
            rows.append(f"{sign} {column} is @{name}")
        elif kinds[name] == "list" and column is not None:
            rows.append(chance.choice([f"{sign} {column} in @{name}", f"for @{name}\n  {sign} {column} is item",
                                       f"for @{name}\n  if item is 'all'\n    break\n  {sign} {column} is item"]))
    return "\n".join([*rows, "take"])


def some_builder(chance, table, settings, most):
    kinds = {setting.name: BUILDER_KINDS[setting.kind] for setting in settings}
    lists = [name for name in kinds if kinds[name] == "list"]
    if chance.random() < 0.5:
        return Builder(plain_text(chance, table, kinds), table, kinds)
    while True:
        try:
            return Builder(some_text(chance, table, lists=lists or ["ids"], most=chance.choice(most)), table, kinds)
        except BadBuilder:
            continue


def some_house(chance, most=(2, 3, 5, 8), languages=LANGUAGES, tables=TABLES, layers=(1, 1, 2, 2, 3)):
    """A house of any language, with one to three settings."""
    table = chance.choice(tables)
    settings = [some_part(chance, name, KINDS[name], ["o" + name] if chance.random() < 0.3 else [])
                for name in chance.sample(list(KINDS), chance.choice([1, 2, 2, 3]))]
    schema = Schema(settings, **some_rules(chance))
    return House(chance.choice(languages), schema, some_builder(chance, table, settings, most),
                 layers=chance.choice(layers))


def some_rule(chance):
    kinds = [word for word in RULE_WORDS if chance.random() < 0.6]
    tokens_told = ["a", "b", "ids", "w", "yes", "0", "1", "4", "=", ";", ",", "[", "]"]
    looks = [tuple(chance.sample(tokens_told, 2)) for _ in range(chance.choice([0, 0, 1, 2]))]
    return SlipRule(*kinds, looks=looks)


def many_house(language=None, layers=1, **rules):
    """A house with more than 60 conducts of its list."""
    settings = [Setting("ids", "list"), Setting("note", "word")]
    return house_of(settings, MANY_TEXT, Table(["owner", "maker"]), layers, language, **rules)


class FileMaker:
    """Makes random files for a house out of the words and numbers that matter, and some others."""

    def __init__(self, chance, house, rule):
        told = told_numbers(house, rule)
        self.chance, self.house = chance, house
        self.words = [word for word in told_words(house, rule) if " " not in word] + ["zz", "zy"]
        self.numbers = sorted({number + more for number in told for more in (0, 1, 2)})
        self.names = [word for setting in house.schema for word in (setting.name, *setting.elders)]
        if house.schema.unknown == "pass":
            self.names.append("zz")
        self.values = [*self.words, *[word for word in told_words(house, rule) if " " in word],
                       *[f"{one} {other}" for one in self.words[:5] for other in self.words[:5]]]

    def token(self, state, sort):
        if sort == "word":
            is_name = self.house.language.begins(state)
            return self.chance.choice(self.names if is_name and self.chance.random() < 0.9 else self.words)
        return str(self.chance.choice(self.numbers)) if sort == "number" else sort

    def file(self):
        """A readable file, or None."""
        file, state, least = [], "start", self.chance.choice([0, 1, 3, 4, 6, 8, 12])
        for _ in range(30):
            sorts = list(self.house.language.next_sorts(state))
            if "end" in sorts and len(file) >= least:
                return file
            sorts = [sort for sort in sorts if sort != "end"]
            if len(file) >= least:
                sorts = [sort for sort in sorts if sort in ("]", ";")] or sorts
            sort = self.chance.choice(sorts)
            file.append(self.token(state, sort))
            state = self.house.language.step(state, sort)
        return None

    def files(self):
        return [self.file() if self.chance.random() < 0.85 else None for _ in range(self.house.layers)]

    def row(self):
        table = self.house.builder.table
        row = {column: self.chance.choice(self.values) for column in table.words}
        row.update({column: self.chance.choice(self.numbers) for column in table.numbers})
        return row


def some_schema_for_pair(chance):
    """One or two settings, at most one of them a list, that may share words with those of another schema."""
    names = chance.sample(["ids", "w", "n", "v"], chance.choice([1, 2, 2]))
    kinds = [chance.choice(["list", "word", "number", "choice"]) for _ in names]
    if kinds == ["list", "list"]:
        kinds[1] = "word"
    return [some_part(chance, name, kind, [elder for elder in ("o" + name, "ox") if chance.random() < 0.3][:1])
            for name, kind in zip(names, kinds)]


def some_like(chance, house):
    """A house that differs from another one in some part, or is of its own."""
    settings = list(house.schema)
    at = chance.randrange(len(settings))
    one = settings[at]
    try:
        settings[at] = chance.choice([
            lambda: one.changed(default=None, demand=chance.choice(["no", "some", "top"])),
            lambda: one.changed(join=not one.join), lambda: one.changed(filled=not one.filled),
            lambda: one.changed(elders=["zq"]), lambda: one])()
    except BadSetting:
        pass
    rules = house.schema.rules()
    if chance.random() < 0.5:
        word = chance.choice(list(rules))
        rules[word] = some_rules(chance)[word]
    return House(house.language, Schema(settings, **rules), house.builder, layers=house.layers)


def some_pair(chance):
    """Two houses that form a pair, within the bounds of 10.3."""
    language, table, layers = chance.choice(LANGUAGES), chance.choice(TABLES), chance.choice([1, 2, 2])
    houses = []
    while len(houses) < 2:
        settings = some_schema_for_pair(chance)
        words = [word for setting in settings for word in (setting.name, *setting.elders)]
        if len(set(words)) == len(words):
            builder = some_builder(chance, table, settings, (2, 3, 5))
            houses.append(House(language, Schema(settings, **some_rules(chance)), builder, layers=layers))
    return houses[0], (some_like(chance, houses[0]) if chance.random() < 0.5 else houses[1])
