"""Codes: what a condition that is not blank asks of a row.

A code is a tuple of steps, to be done one after another on a stack of truths: ("every",) and
("none",), a test (column, sign, wanted), ("not",), and ("and",) and ("or",) for the last two.
"""

from slipreach.gaps import number_spots
from slipreach.rowkinds import fresh_words
from slipreach.working import holds

EVERY = (("every",),)
NONE = (("none",),)


def inverse_code(code):
    """The code of `~`."""
    return code[:-1] if code[-1] == ("not",) else (*code, ("not",))


def joined_codes(one, other, word):
    """The code of two codes with "and" or "or" between them."""
    return one if one == other else (*one, *other, (word,))


def tests_of(code):
    """The tests in a code, each once."""
    return list({step: True for step in code if len(step) == 3})


def code_words(table, codes):
    """The word values in the tests of some codes, each once and ascending."""
    tests = [step for code in codes for step in tests_of(code) if step[0] in table.words]
    rows = [list(wanted) if sign == "in" else [wanted] for _, sign, wanted in tests]
    return sorted(set([word for row in rows for word in row]))


def code_numbers(table, codes):
    """The numbers in the tests of some codes, each once and ascending."""
    return sorted(set([step[2] for code in codes for step in tests_of(code) if step[0] in table.numbers]))


def truth_of(code, row):
    """Whether a code is true on a row."""
    stack = []
    for step in code:
        if len(step) == 3:
            stack.append(holds(step[1], row[step[0]], step[2]))
        elif step[0] in ("every", "none"):
            stack.append(step[0] == "every")
        elif step[0] == "not":
            stack.append(not stack.pop())
        else:
            last = stack.pop()
            first = stack.pop()
            stack.append(first and last if step[0] == "and" else first or last)
    return stack[0]


def column_spots(table, codes, column):
    """The values of a column that stand in the tests of some codes, and one for each other sort."""
    tests = [step for code in codes for step in tests_of(code) if step[0] == column]
    if column in table.numbers:
        return number_spots([step[2] for step in tests])
    words = code_words(table, [tests])
    return [*words, *fresh_words(words, 1)]


def telling_rows(table, codes):
    """Rows of which some is like each row of the table in all tests of some codes."""
    rows = [{}]
    for column in table.columns:
        values = column_spots(table, codes, column)
        rows = [{**row, column: value} for row in rows for value in values]
    return rows


def test_mask(step, rows):
    """An integer with a bit for each row, the first row highest: whether a test holds there."""
    column, sign, wanted = step
    return int("".join(["1" if holds(sign, row[column], wanted) else "0" for row in rows]), 2)


def mask_of(code, rows):
    """An integer with a bit for each row, the first row highest: whether a code is true there."""
    whole = (1 << len(rows)) - 1
    masks = {step: test_mask(step, rows) for step in tests_of(code)}
    stack = []
    for step in code:
        if len(step) == 3:
            stack.append(masks[step])
        elif step[0] in ("every", "none"):
            stack.append(whole if step[0] == "every" else 0)
        elif step[0] == "not":
            stack.append(whole - stack.pop())
        else:
            last = stack.pop()
            first = stack.pop()
            stack.append(first & last if step[0] == "and" else first | last)
    return stack[0]


def row_in(mask, rows):
    """The first row whose bit is set in a mask, or None."""
    return dict(rows[len(rows) - mask.bit_length()]) if mask > 0 else None
