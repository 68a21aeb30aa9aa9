"""Pairs of houses: what their schemas have in common, and the differences that files show."""

from slipreach.errors import BadPair
from slipreach.house import check_count, copied_files
from slipreach.playing import parted, tried
from slipreach.schema import all_words

DIFFERENCES = ("first", "second", "more", "less")


def first_unlike(first, second):
    """The first of "language", "layers" and "table" in which two houses differ, or None."""
    if first.language != second.language:
        return "language"
    if first.layers != second.layers:
        return "layers"
    return "table" if first.builder.table != second.builder.table else None


class Group:
    """Names of both schemas that belong together, and the words that call them."""

    def __init__(self, words, first, second):
        self.words = words
        self.first = first
        self.second = second

    def __contains__(self, x):
        return x in self.words


def words_in(schema, names):
    """The words that call some settings."""
    return [word for name in names for word in all_words([schema.setting(name)])]


def names_called(schema, words):
    """The names that some words call, in the order of the schema."""
    called = [schema.called(word) for word in words]
    return tuple([name for name in schema.names if name in called])


def grown_words(first, second, words):
    """All words that call what is linked with some words, ascending."""
    known = []
    while len(words) > len(known):
        known = words
        words = sorted(set([*known, *words_in(first, names_called(first, known)),
                            *words_in(second, names_called(second, known))]))
    return words


class Pair:
    """Two houses that read the same files for the same table."""

    def __init__(self, first, second):
        what = first_unlike(first, second)
        if what is not None:
            raise BadPair(what)
        self.first = first
        self.second = second

    def groups(self):
        """The groups by their first words; the strange one last."""
        one, other = self.first.schema, self.second.schema
        found = []
        for word in sorted([*all_words(one), *all_words(other)]):
            if not any([word in group for group in found]):
                words = grown_words(one, other, [word])
                found.append(Group(tuple(words), names_called(one, words), names_called(other, words)))
        return [*found, Group((), (), ())]


class Parting:
    """Files that show a difference, a row that shows it, and the weight of the files."""

    def __init__(self, difference, files, row, weight):
        self.difference = difference
        self.files = copied_files(files)
        self.row = dict(row) if isinstance(row, dict) else row
        self.weight = weight


def shown(first, second, files):
    """The differences that files show. Raises BadPair(what), BadFiles(count)."""
    pair = Pair(first, second)
    check_count(pair.first, files)
    one, other = tried(first, files)[0], tried(second, files)[0]
    if one is None or other is None:
        return () if one is None and other is None else ("first",) if one is None else ("second",)
    more, less = parted(one, other)
    return tuple([word for word, row in (("more", more), ("less", less)) if row is not None])
