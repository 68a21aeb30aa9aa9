"""Builders: builder texts that make conditions."""

from slipreach.codes import EVERY, NONE, inverse_code, joined_codes
from slipreach.conditions import Condition
from slipreach.courses import Course
from slipreach.errors import Refused
from slipreach.steps import BuilderText, check_values, known_values


def put_together(one, other, word):
    """Two codes, of which each may be blank, with "and" or "or" between them."""
    if one is None or other is None:
        return other if one is None else one
    return joined_codes(one, other, word)


class CodeSide:
    """Working values beside all rows at once: codes."""

    def constant(self, truth):
        """The working value that is the same beside every row."""
        return EVERY if truth else NONE

    def tested(self, column, sign, wanted):
        """The working value of a test."""
        return ((column, sign, tuple(wanted) if sign == "in" else wanted),)

    def both(self, one, other):
        """The `&` of two working values."""
        return put_together(one, other, "and")

    def either(self, one, other):
        """The `|` of two working values."""
        return put_together(one, other, "or")

    def inverse(self, one):
        """The `~` of a working value."""
        return None if one is None else inverse_code(one)


class Builder(BuilderText):
    """A builder text that makes conditions."""

    def __init__(self, text, table, kinds):
        super().__init__(text, table, kinds)

    def __call__(self, settings):
        """The Condition of a run. Raises BadSettings(name), Refused(line)."""
        check_values(self, settings, False)
        course = Course(CodeSide(), known_values(self, settings))
        if course.went(self.rows) == "refuse":
            raise Refused(course.lines[-1])
        return Condition(self.table, course.working)
