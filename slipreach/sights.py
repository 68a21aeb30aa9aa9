"""Sights: what a builder can tell apart beside one row, and one value for each sort of values.

A sight has the methods of Beside that standings ask for, but values that no line of the builder
tells apart beside the row are the same to it. So it has few letters.
"""

from slipreach.conducts import conduct
from slipreach.errors import TooManyConducts
from slipreach.rowkinds import fresh_words
from slipreach.standings import cost_of
from slipreach.steps import column_tests
from slipreach.tokens import is_word
from slipreach.working import holds

MOST_CONDUCTS = 60
SHORT = 20
WRONG_WORD = "wrong"
WRONG_NUMBER = 0


def tests_with(builder, name):
    """The tests of columns with a setting: tuples (column, sign)."""
    return [row[:2] for row in column_tests(builder) if row[2] == "setting" and row[3] == name]


def questions_about(builder, name):
    """The comparisons of a setting in questions: tuples (sign, what is written)."""
    asked = [step.told[1] for step in builder.steps if step.word == "if"]
    return [row[2:] for row in asked if row[0] == "setting" and row[1] == name]


def told_tests(builder):
    """The tests of columns with what is written: tuples (column, sign, word value or number)."""
    return [(row[0], row[1], row[3]) for row in column_tests(builder) if row[2] == "told"]


def cost_of_values(values):
    """What entries with some values count."""
    return sum([cost_of(value) for value in values])


def spots_of(views, items):
    """Those items of which no two are alike to all views."""
    found = {}
    for item in items:
        key = tuple([sight.told_of(name, (item,)) for sight, name in views])
        found.setdefault(key, item)
    return [found[key] for key in found]


def least_lists(views, items):
    """Lists with the fewest items, of which no two are alike to all views: tuples (sight, list setting).

    Raises TooManyConducts(60) for one view.
    """
    singles = [(spot, [sight.conduct_of(name, (spot,)) for sight, name in views]) for spot in spots_of(views, items)]
    empty = [sight.conduct_of(name, ()) for sight, name in views]
    found = [((), empty)]
    known = {tuple([total.key for total in empty]): True}
    at = 0
    while at < len(found):
        things, totals = found[at]
        at += 1
        for spot, single in singles:
            longer = [total + other for total, other in zip(totals, single)]
            key = tuple([total.key for total in longer])
            if key not in known:
                known[key] = True
                found.append(((*things, spot), longer))
        if len(views) == 1 and len(found) > MOST_CONDUCTS:
            raise TooManyConducts(MOST_CONDUCTS)
    return [things for things, _ in found]


class Sight:
    """Beside a row: what a builder can tell of the values of each setting."""

    def __init__(self, house, row, words, numbers):
        self.house = house
        self.row = row
        self.words = words
        self.numbers = numbers
        self.fresh = fresh_words(words, 3)
        self.singles = [*[word for word in words if is_word(word)], *self.fresh]
        names = house.builder.names
        self.tests = {name: tests_with(house.builder, name) for name in names}
        self.questions = {name: questions_about(house.builder, name) for name in names}
        self.told = {name: {} for name in house.schema.names}
        self.conducts = {name: {} for name in house.schema.names}
        self.known = {}
        self.models = {}
        self.plain = {}
        self.lists = {}

    def found_told(self, name, value):
        """What told_of tells of a value that fits."""
        if self.house.schema.setting(name).kind == "list":
            return self.conduct_of(name, value).key
        if name not in self.tests:
            return ()
        tests = [holds(sign, self.row[column], value) for column, sign in self.tests[name]]
        return (*tests, *[holds(sign, value, wanted) for sign, wanted in self.questions[name]])

    def told_of(self, name, value):
        """A key that is equal for two values, not None, if a setting and the builder treat them alike."""
        told = self.told[name]
        if value not in told:
            setting = self.house.schema.setting(name)
            # Each tuple that comes here is a list, so its items need not be looked at.
            is_fitting = isinstance(value, tuple) if setting.kind == "list" else setting.fits(value)
            told[value] = self.found_told(name, value) if is_fitting else "wrong"
        return told[value]

    def row_told(self):
        """What the builder can tell of the row itself, whatever the settings are."""
        return [holds(sign, self.row[column], wanted) for column, sign, wanted in told_tests(self.house.builder)]

    def default_told(self, name):
        """What can be told of the default of a setting; "none" if it has none."""
        default = self.house.schema.setting(name).default
        return "none" if default is None else self.told_of(name, default)

    def all_items(self):
        """The items that lists in files can have, one or more of each sort."""
        if self.house.language.comma != "joins":
            return self.singles
        return [*self.singles, *[word for word in self.words if not is_word(word)]]

    def single_keys(self, names, item):
        """What the builder can tell of an item in some list settings, a tuple."""
        return tuple([self.told_of(name, (item,)) for name in names])

    def lists_of(self, names):
        """Lists with the fewest items, of which no two are alike in all of some list settings.

        Raises TooManyConducts(60) for one setting.
        """
        if names not in self.lists:
            self.lists[names] = least_lists([(self, name) for name in names], self.all_items())
        return self.lists[names]

    def conduct_of(self, name, things):
        """The conduct of a list in a list setting."""
        known = self.conducts[name]
        if things not in known:
            known[things] = self.found_conduct(name, things)
        return known[things]

    def found_conduct(self, name, things):
        """What conduct_of tells."""
        # A sum of known conducts is made faster than a run over the whole list, but not over a long one.
        if 1 < len(things) <= SHORT:
            return self.conduct_of(name, things[:-1]) + self.conduct_of(name, things[-1:])
        return conduct(self.house.builder, self.row, name, things)

    def fitting(self, setting):
        """Values that fit a setting, at least one of each sort, with the fewest items."""
        if setting.kind == "list":
            return self.lists_of((setting.name,))
        if setting.kind == "number":
            return [number for number in self.numbers if setting.fits(number)]
        return [word for word in [*setting.words, *self.singles] if setting.fits(word)]

    def settle(self, models):
        """Finds one value of each sort. Raises TooManyConducts(60).

        The sight takes the values of another one, the model of a setting, if both have the same
        sorts with the same costs; `models` is a dict to which new models are added, with numbers.
        """
        for setting in self.house.schema:
            name = setting.name
            known = {}
            for value in self.fitting(setting):
                known.setdefault(self.told_of(name, value), value)
            self.known[name] = known
            key = (name, self.sorts_key(name))
            if key not in models:
                models[key] = (len(models), self)
            self.models[name], model = models[key]
            self.plain[name] = model.known[name]

    def sorts_key(self, name):
        """A string that is equal for two sights if a setting has the same sorts with the same costs."""
        known = self.known[name]
        rows = sorted([f"{key} {cost_of(known[key])}" for key in known])
        return f"{rows} {self.default_told(name)}"

    def wrong_value(self, name):
        """A value that does not fit a setting."""
        return WRONG_WORD if self.house.schema.setting(name).kind == "number" else WRONG_NUMBER

    def plain_value(self, name, value):
        """The one value of its sort, as the model of the setting has it."""
        if value is None:
            return None
        key = self.told_of(name, value)
        return self.wrong_value(name) if key == "wrong" else self.plain[name][key]

    def letters(self, name):
        """The values that entries of a setting can have, one of each sort."""
        plain = self.plain[name]
        nothing = [None] if self.house.language.nothing else []
        wrong = [self.wrong_value(name)] if self.house.schema.wrong == "lack" else []
        return [*nothing, *[plain[key] for key in plain], *wrong]

    def domain(self, name):
        """All that a setting can have at the end: () and a tuple of each value."""
        plain = self.plain[name]
        return [(), *[(plain[key],) for key in plain]]

    def own_values(self, name):
        """A dict from the values of the model of a setting to those that are alike beside this row."""
        plain = self.plain[name]
        known = self.known[name]
        return {plain[key]: known[key] for key in plain}
