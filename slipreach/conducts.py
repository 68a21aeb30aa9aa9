"""Conducts of lists, and all conducts of the lists out of some items."""

from slipreach.conduct import Conduct
from slipreach.courses import Course, RowSide
from slipreach.errors import TooManyConducts
from slipreach.steps import column_tests


def met_columns(builder, name):
    """The columns with a test whether they are in a list, each once."""
    return sorted(set([row[0] for row in column_tests(builder) if row[1] == "in" and row[3] == name]))


def loops_over(builder, name):
    """The steps that go over a list, by their lines."""
    return [step for step in builder.steps if step.word == "for" and step.told[0] == name]


def loop_result(step, row, start, things):
    """The working value and the end of a `for` over some items, from a working value."""
    course = Course(RowSide(row), {}, start)
    end = course.went_through_items(step, things)
    return (None if end == "refuse" else course.working, end)


def conduct(builder, row, name, items):
    """The Conduct of a list of word values."""
    meetings = [(column, row[column] in items) for column in met_columns(builder, name)]
    results = [tuple([loop_result(step, row, start, items) for start in (None, True, False)])
               for step in loops_over(builder, name)]
    return Conduct(len(items) == 0, tuple(meetings), tuple(results))


def closure(builder, row, name, spots, *, most=60):
    """Tuples (Conduct, its least list) for all lists out of some items. Raises TooManyConducts(most)."""
    singles = [(conduct(builder, row, name, [spot]), spot) for spot in spots]
    first = conduct(builder, row, name, [])
    found = [(first, ())]
    known = {first.key: True}
    at = 0
    # The beginning of a least list is itself one, so each list need be made longer only once.
    while at < len(found):
        total, things = found[at]
        at += 1
        for single, spot in singles:
            longer = total + single
            if longer.key not in known:
                known[longer.key] = True
                found.append((longer, (*things, spot)))
        if len(found) > most:
            raise TooManyConducts(most)
    return found
