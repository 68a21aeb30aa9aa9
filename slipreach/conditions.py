"""Conditions: which rows of a table a deed takes."""

from slipreach.codes import EVERY, NONE, code_numbers, code_words, inverse_code, joined_codes, mask_of, row_in
from slipreach.codes import telling_rows, truth_of
from slipreach.errors import BadTest, WrongTable
from slipreach.rowkinds import is_worth
from slipreach.tokens import is_one_of

NUMBER_SIGNS = ("is", "below", "least")
WORD_SIGNS = ("is",)


def check_test(table, column, sign, wanted):
    """Raises BadTest(part) for the first of some objects that makes no test."""
    if not is_one_of(column, table.columns):
        raise BadTest("column")
    if not is_one_of(sign, NUMBER_SIGNS if column in table.numbers else WORD_SIGNS):
        raise BadTest("sign")
    if not is_worth(table, column, wanted):
        raise BadTest("wanted")


class Condition:
    """What is blank, or true or false on each row of a table. The code of a blank one is None."""

    def __init__(self, table, code=None):
        self.table = table
        self.code = code

    @classmethod
    def every(cls, table):
        """The condition that is true on every row."""
        return cls(table, EVERY)

    @classmethod
    def none(cls, table):
        """The condition that is false on every row."""
        return cls(table, NONE)

    @classmethod
    def test(cls, table, column, sign, wanted):
        """The condition that compares a column. Raises BadTest(part)."""
        check_test(table, column, sign, wanted)
        return cls(table, ((column, sign, wanted),))

    @property
    def blank(self):
        """Whether the condition is blank."""
        return self.code is None

    def value(self, row):
        """The value on a row: None, True or False."""
        return None if self.code is None else truth_of(self.code, row)

    def takes(self, row):
        """Whether the value on a row is not False."""
        return self.code is None or truth_of(self.code, row)

    def __contains__(self, x):
        return x in self.table and self.takes(x)

    def __bool__(self):
        return self.code is not None

    def __eq__(self, other):
        return isinstance(other, Condition) and self.table == other.table and are_alike(self, other)

    def __and__(self, other):
        return put_together(self, other, "and")

    def __rand__(self, other):
        return put_together(self, other, "and")

    def __iand__(self, other):
        self.code = put_together(self, other, "and").code
        return self

    def __or__(self, other):
        return put_together(self, other, "or")

    def __ror__(self, other):
        return put_together(self, other, "or")

    def __ior__(self, other):
        self.code = put_together(self, other, "or").code
        return self

    def __invert__(self):
        return Condition(self.table, None if self.code is None else inverse_code(self.code))

    def tested_words(self):
        """The word values in the tests, ascending."""
        return tuple(code_words(self.table, codes_of([self])))

    def tested_numbers(self):
        """The numbers in the tests, ascending."""
        return tuple(code_numbers(self.table, codes_of([self])))


def codes_of(conditions):
    """The codes of those conditions that are not blank."""
    return [condition.code for condition in conditions if condition.code is not None]


def put_together(one, other, word):
    """A new condition out of one and another one, or None, with "and" or "or" between them."""
    if other is None:
        return Condition(one.table, one.code)
    if one.table != other.table:
        raise WrongTable()
    if one.code is None or other.code is None:
        return Condition(one.table, other.code if one.code is None else one.code)
    return Condition(one.table, joined_codes(one.code, other.code, word))


def are_alike(one, other):
    """Whether two conditions of one table have the same value on all rows."""
    if one.code is None or other.code is None:
        return one.code is None and other.code is None
    rows = telling_rows(one.table, [one.code, other.code])
    return mask_of(one.code, rows) == mask_of(other.code, rows)


def taken_mask(condition, rows):
    """An integer with a bit for each row, the first row highest: whether a condition takes it."""
    return mask_of(EVERY if condition.code is None else condition.code, rows)


def parting(first, second):
    """A row that the second condition takes alone, and one that the first does. Raises WrongTable()."""
    if first.table != second.table:
        raise WrongTable()
    rows = telling_rows(first.table, codes_of([first, second]))
    one = taken_mask(first, rows)
    other = taken_mask(second, rows)
    shared = one & other
    return row_in(other - shared, rows), row_in(one - shared, rows)
