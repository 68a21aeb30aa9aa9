"""Builder texts: how a condition is made out of settings."""

from slipreach.blocks import blocks_of
from slipreach.conduct import Conduct
from slipreach.courses import Course, NoSide, RowSide
from slipreach.errors import BadKind, BadSettings
from slipreach.tokens import is_item, is_number, is_one_of, is_word

KINDS = ("word", "number", "list")


def check_kinds(kinds):
    """Raises BadKind(name) for the first key that is no word or has no kind."""
    for name in sorted(kinds):
        if not is_word(name) or not is_one_of(kinds[name], KINDS):
            raise BadKind(name)


def fits_kind(kind, thing):
    """Whether any object is a value of a kind."""
    if kind == "word":
        return is_word(thing)
    if kind == "number":
        return is_number(thing)
    return isinstance(thing, (list, tuple)) and all([is_item(item) for item in thing])


def check_values(builder, values, are_conducts_lists):
    """Raises BadSettings(name) for the first value that does not fit its kind."""
    for name in sorted(values):
        if name in builder.kinds and not fits_kind(builder.kinds[name], values[name]):
            is_conduct = isinstance(values[name], Conduct) and builder.kinds[name] == "list"
            if not is_conduct or not are_conducts_lists:
                raise BadSettings(name)


def known_values(builder, values):
    """Those of some values for which a builder has a kind."""
    return {name: values[name] for name in values if name in builder.kinds}


def executed_lines(builder, values):
    """The numbers of the lines that a run executes, a list. Raises BadSettings(name)."""
    check_values(builder, values, False)
    course = Course(NoSide(), known_values(builder, values))
    course.went(builder.rows)
    return course.lines


class BuilderText:
    """The lines of a builder for a table and for settings of some kinds."""

    def __init__(self, text, table, kinds):
        check_kinds(kinds)
        blocks = blocks_of(text, table, kinds)
        self.text = text
        self.table = table
        self.kinds = {name: kinds[name] for name in kinds}
        self.steps = blocks.steps
        self.rows = blocks.rows
        self.names = tuple(sorted(set([name for step in blocks.steps for name in step.settings_named()])))
        self.written = blocks.things()

    def __eq__(self, other):
        return (isinstance(other, BuilderText) and self.text == other.text and self.table == other.table
                and self.kinds == other.kinds)

    def outcome(self, row, values):
        """The result of a run beside a row: "refused", None, True or False. Raises BadSettings(name)."""
        check_values(self, values, True)
        course = Course(RowSide(row), known_values(self, values))
        return "refused" if course.went(self.rows) == "refuse" else course.working

    def lines_run(self, values):
        """Yields the numbers of the lines that a run executes. Raises BadSettings(name)."""
        for line in executed_lines(self, values):
            yield line


def column_tests(builder):
    """The tests of columns in the lines: tuples (column, sign, source, thing)."""
    asked = [step.told[2] for step in builder.steps if step.word in ("and", "or")]
    return [row for row in asked if len(row) == 4]


def written_words(builder):
    """The words and pairs in quotes, ascending."""
    return tuple(builder.written[0])


def written_numbers(builder):
    """The written numbers and 0, ascending."""
    return tuple(sorted(set([0, *builder.written[1]])))
