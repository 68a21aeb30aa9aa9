"""Vantages: rows of a table, one for each way in which a row can matter for the fates of slips."""

from slipreach.beside import choice_words, default_words, look_tokens, told_numbers
from slipreach.gaps import kind_numbers, number_spots
from slipreach.rowkinds import cut, each_word, fresh_words, lengths_of, word_rows
from slipreach.schema import all_words
from slipreach.steps import column_tests, written_words
from slipreach.symbols import value_symbols
from slipreach.templates import names_of
from slipreach.tokens import is_word


def compared(house, column):
    """All that a column is compared with: tuples (source, thing)."""
    return [row[2:] for row in column_tests(house.builder) if row[0] == column]


def is_open(house, column):
    """Whether a column of words is compared with words of any kind."""
    for source, thing in compared(house, column):
        if source == "item" or (source == "setting" and house.schema.setting(thing).kind != "choice"):
            return True
    return False


def entries_of(shape):
    """All shape entries of a shape, before and behind the slip."""
    return [*shape.before, *([] if shape.after is None else shape.after)]


def has_crossing(shapes):
    """Whether some word of a file is a name without a slip and stands in a value with it, or so."""
    for shape in shapes:
        used = [symbol for _, value in entries_of(shape) for symbol in value_symbols(value)]
        if any([symbol in used for symbol in names_of(shape)]):
            return True
    return False


def has_bare_names(shapes):
    """Whether names alone matter for some slip."""
    return any([value == ("yes",) for shape in shapes for _, value in entries_of(shape)])


def has_moving_words(shapes):
    """Whether some word is a value without a slip and stands in a list with it, or the other way about."""
    for shape in shapes:
        values = [value for _, value in entries_of(shape) if value is not None]
        singles = [value[1] for value in values if value[0] == "word"]
        items = [symbol for value in values if value[0] == "list" for symbol in value_symbols(value)]
        if any([symbol in items for symbol in singles]):
            return True
    return False


def paired_words(house, rule, shapes):
    """The words that may matter in a pair for other reasons than being equal to some item."""
    words = [word for value in written_words(house.builder) for word in value.split(" ")]
    words.extend([token for token in look_tokens(rule) if is_word(token)])
    if has_crossing(shapes):
        words.extend(all_words(house.schema))
    if has_moving_words(shapes):
        words.extend(["yes", *choice_words(house.schema)])
    return sorted(set(words))


def weighty_words(house, rule, shapes):
    """The word values that may matter in a row for other reasons than being equal to some value."""
    schema = house.schema
    words = [*written_words(house.builder), *choice_words(schema), *default_words(schema)]
    words.extend([token for token in look_tokens(rule) if is_word(token)])
    if has_crossing(shapes):
        words.extend(all_words(schema))
    if has_bare_names(shapes):
        words.append("yes")
    return sorted(set(words))


def closed_words(house, column):
    """The words with which a column is compared, and one other, if it is compared with told ones alone."""
    words = []
    for source, thing in compared(house, column):
        words.extend(house.schema.setting(thing).words if source == "setting" else [thing])
    words = sorted(set(words))
    return [*words, *fresh_words(words, 1)]


def number_values(house, rule, column):
    """The numbers that matter in a column."""
    tests = compared(house, column)
    if not tests:
        return [0]
    if any([source == "setting" for source, _ in tests]):
        return kind_numbers(told_numbers(house, rule))
    return number_spots([thing for _, thing in tests])


def with_place(rows, known, fresh):
    """Rows of words, each with one word more: a known one, one of its own, or a new one."""
    longer = []
    for row in rows:
        own = [word for word in row if word not in known and is_word(word)]
        new = [word for word in fresh if word not in row][:1]
        longer.extend([(*row, word) for word in list({word: True for word in [*known, *own, *new]})])
    return longer


def opened_rows(count, words, paired):
    """The values of so many open columns: words, and pairs out of some of them."""
    found = []
    fresh = fresh_words(words, 2 * count)
    for lengths in lengths_of(count):
        rows = [()]
        for many in lengths:
            for _ in range(many):
                rows = with_place(rows, words if many == 1 else paired, fresh)
        found.extend([cut(row, lengths) for row in rows])
    return found


def vantages(house, rule, shapes):
    """Rows of the table, one for each way to matter."""
    table = house.builder.table
    opened = [column for column in table.words if is_open(house, column)]
    words = weighty_words(house, rule, shapes)
    values = word_rows(len(opened), words, False)
    if house.language.comma == "joins":
        # A slip may make a pair of a word, so the words of a pair matter by themselves, too.
        values = opened_rows(len(opened), each_word(words), paired_words(house, rule, shapes))
    rows = [dict(zip(opened, row)) for row in values]
    for column in [one for one in table.columns if one not in opened]:
        if column in table.numbers:
            values = number_values(house, rule, column)
        else:
            values = closed_words(house, column)
        rows = [{**row, column: value} for row in rows for value in values]
    return [{column: row[column] for column in table.columns} for row in rows]
