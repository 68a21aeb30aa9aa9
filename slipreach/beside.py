"""Plain values: what can stand beside one row of a house's table."""

from slipreach.conducts import closure, conduct
from slipreach.gaps import number_spots
from slipreach.rowkinds import each_word, fresh_words
from slipreach.schema import all_words
from slipreach.steps import written_numbers, written_words
from slipreach.tokens import is_integer, is_numeral, is_word

WRONG_NUMBER = 0


def default_words(schema):
    """The words that are defaults or stand in them."""
    defaults = [setting.default for setting in schema]
    members = [item for default in defaults if isinstance(default, tuple) for item in default]
    return [*members, *[default for default in defaults if isinstance(default, str)]]


def choice_words(schema):
    """The words of all choices."""
    return [word for setting in schema for word in setting.words]


def look_tokens(rule):
    """The tokens in the looks of a rule."""
    return [token for look in rule.looks for token in look]


def told_words(house, rule):
    """The word values that a house and a rule tell, and the words in pairs, ascending."""
    schema = house.schema
    looks = [token for token in look_tokens(rule) if is_word(token)]
    return each_word(["yes", *all_words(schema), *choice_words(schema), *default_words(schema),
                      *written_words(house.builder), *looks])


def told_numbers(house, rule):
    """The numbers that a house and a rule tell, and 0, ascending."""
    defaults = [setting.default for setting in house.schema if is_integer(setting.default)]
    looks = [int(token) for token in look_tokens(rule) if is_numeral(token)]
    return sorted(set([*written_numbers(house.builder), *defaults, *looks]))


def plain_number(numbers, number):
    """The least number that has the same neighbours among some numbers, or is the same one of them."""
    return [spot for spot in number_spots(numbers) if spot <= number][-1]


class Beside:
    """What can stand beside a row: words, numbers, and one value of each sort for a setting."""

    def __init__(self, house, rule, row):
        self.house = house
        self.row = dict(row)
        table = house.builder.table
        self.words = tuple(each_word([*told_words(house, rule), *[row[column] for column in table.words]]))
        amounts = [*told_numbers(house, rule), *[row[column] for column in table.numbers]]
        self.numbers = tuple(sorted(set(amounts)))
        self.fresh = fresh_words(self.words, 1)[0]
        self.lists = {}

    def spots(self):
        """The items out of which plain lists are made, in their order."""
        is_joining = self.house.language.comma == "joins"
        return [*[word for word in self.words if is_joining or is_word(word)], self.fresh]

    def lists_of(self, name):
        """A dict from the key of each conduct to its plain list. Raises TooManyConducts(60)."""
        if name not in self.lists:
            rows = closure(self.house.builder, self.row, name, self.spots())
            self.lists[name] = {total.key: things for total, things in rows}
        return self.lists[name]

    def wrong_value(self, name):
        """The plain value that does not fit a setting."""
        return self.fresh if self.house.schema.setting(name).kind == "number" else WRONG_NUMBER

    def plain_value(self, name, value):
        """A plain value that the house treats alike. Raises NoSetting(name), TooManyConducts(60)."""
        setting = self.house.schema.setting(name)
        if value is None:
            return None
        if not setting.fits(value):
            return self.wrong_value(name)
        if setting.kind == "list":
            key = conduct(self.house.builder, self.row, name, value).key
            return self.lists_of(name)[key]
        if setting.kind == "number":
            return plain_number(self.numbers, value)
        return value if value in self.words else self.fresh

    def fitting_letters(self, name):
        """The plain values that fit a setting, without nothing."""
        setting = self.house.schema.setting(name)
        if setting.kind == "choice":
            return list(setting.words)
        if setting.kind == "word":
            return [*[word for word in self.words if is_word(word)], self.fresh]
        if setting.kind == "number":
            return [number for number in number_spots(self.numbers) if setting.fits(number)]
        rows = self.lists_of(name)
        return [rows[key] for key in rows]

    def letters(self, name):
        """The plain values that entries can have. Raises NoSetting(name), TooManyConducts(60)."""
        fitting = self.fitting_letters(name)
        nothing = [None] if self.house.language.nothing else []
        wrong = [self.wrong_value(name)] if self.house.schema.wrong == "lack" else []
        return [*nothing, *fitting, *wrong]
