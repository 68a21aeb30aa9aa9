"""Tables, and the kinds of rows beside told words and numbers."""

from slipreach.errors import BadTable
from slipreach.gaps import kind_numbers, number_kind, number_spots
from slipreach.tokens import LETTERS, is_integer, is_item, is_word

KEPT = ("and", "or", "not", "clear", "if", "else", "for", "in", "break", "skip", "refuse", "take", "guard",
        "no", "given", "some", "item", "is", "below", "least", "blank", "every", "none")
MOST_COLUMNS = 2


def bad_column(words, numbers):
    """The index of the first column that is wrong, -1 if there is none at all, or None."""
    columns = [*words, *numbers]
    if not columns:
        return -1
    for at, column in enumerate(columns):
        if not is_word(column) or column in KEPT or column in columns[:at]:
            return at
        if at >= MOST_COLUMNS or at > len(words):
            return at
    return None


def is_amount(thing):
    """Whether any object is an integer from 0 on."""
    return is_integer(thing) and thing >= 0


class Table:
    """One or two columns, of which at most one has numbers."""

    def __init__(self, words=(), numbers=()):
        at = bad_column(words, numbers)
        if at is not None:
            raise BadTable(at)
        self.words = tuple(words)
        self.numbers = tuple(numbers)
        self.columns = (*self.words, *self.numbers)

    def __eq__(self, other):
        return isinstance(other, Table) and self.words == other.words and self.numbers == other.numbers

    def __contains__(self, x):
        if not isinstance(x, dict) or len(x) != len(self.columns):
            return False
        return all([column in x and is_worth(self, column, x[column]) for column in self.columns])


def is_worth(table, column, thing):
    """Whether any object is a value that a column of a table can have."""
    return is_item(thing) if column in table.words else is_amount(thing)


def each_word(values):
    """Some word values and the words of the pairs among them, each once and ascending."""
    return sorted(set([*values, *[word for value in values for word in value.split(" ")]]))


def single_words(values):
    """The words that some word values are or have, each once and ascending."""
    return sorted(set([word for value in values for word in value.split(" ")]))


def fresh_words(words, count):
    """The first words that are none of some word values, nor in the pairs among them."""
    known = set(each_word(words))
    found = []
    row = [""]
    while len(found) < count:
        row = [f"{word}{letter}" for word in row for letter in LETTERS]
        # As many words of this length are enough, even if all that are known stand first.
        row = row[:count + len(known)]
        found.extend([word for word in row if word not in known])
    return found[:count]


def places_of(rows, known, fresh):
    """Some rows of words, each with one word more: a known one, one of its own, or one new one."""
    longer = []
    for row in rows:
        own = [word for word in fresh if word in row]
        longer.extend([(*row, word) for word in [*known, *fresh[:len(own) + 1]]])
    return longer


def rows_of_places(known, fresh, count):
    """One row of so many words of each kind beside known ones, with fresh ones for all others."""
    rows = [()]
    for _ in range(count):
        rows = places_of(rows, known, fresh)
    return rows


def lengths_of(count):
    """All ways in which so many columns have one word or two."""
    rows = [()]
    for _ in range(count):
        rows = [(*row, many) for row in rows for many in (1, 2)]
    return rows


def cut(words, lengths):
    """Some words put together to values of so many words each."""
    values = []
    at = 0
    for many in lengths:
        values.append(" ".join(words[at:at + many]))
        at += many
    return values


def word_rows(count, words, pairs):
    """The values of so many columns of words, for one row of each kind."""
    if not pairs:
        return rows_of_places(sorted(set(words)), fresh_words(words, count), count)
    known = single_words(words)
    fresh = fresh_words(known, 2 * count)
    return [cut(row, lengths) for lengths in lengths_of(count)
            for row in rows_of_places(known, fresh, sum(lengths))]


def kind_rows(table, words, numbers, *, pairs=False):
    """A list with one row of each kind beside told words and numbers."""
    amounts = [()]
    if table.numbers:
        amounts = [(number,) for number in kind_numbers(numbers)]
    rows = [(*values, *amount) for values in word_rows(len(table.words), words, pairs) for amount in amounts]
    return [{column: worth for column, worth in zip(table.columns, row)} for row in rows]


def row_kind(table, words, numbers, row, pairs):
    """A list that is equal for two rows exactly if they are of one kind."""
    values = [row[column] for column in table.words]
    known = words
    lengths = []
    if pairs:
        parts = [value.split(" ") for value in values]
        lengths = [len(part) for part in parts]
        values = [word for part in parts for word in part]
        known = single_words(words)
    places = [value if value in known else values.index(value) for value in values]
    return [lengths, places, [number_kind(numbers, row[column]) for column in table.numbers]]


def same_kind(table, words, numbers, one, other, *, pairs=False):
    """Whether two rows are of one kind, or of one kind with pairs."""
    return row_kind(table, words, numbers, one, pairs) == row_kind(table, words, numbers, other, pairs)


def value_spots(table, row, words, numbers):
    """The word values and the numbers that matter beside a row, and one of each other sort."""
    values = each_word([*words, *[row[column] for column in table.words]])
    amounts = [*numbers, *[row[column] for column in table.numbers]]
    return [*values, *fresh_words(values, 1)], number_spots(amounts)
