"""Faults: files that an elder schema takes, and a later one perhaps not, or in another way."""

from slipreach.schema import all_words
from slipreach.whys import told_values
from slipreach.witnesses import base_row


def words_of(schema, name):
    """The words that call a setting; none for no name."""
    return [] if name is None else all_words([schema.setting(name)])


def first_words(rows):
    """The first word of each row that has one."""
    return [row[0] for row in rows if row]


def spoken_words(edition, source, target):
    """A word for each of: what calls both the source and the target, the source, the target alone."""
    olds = words_of(edition.elder, source)
    news = words_of(edition.later, target)
    both = [word for word in olds if word in news]
    lost = [word for word in olds if word not in news]
    strange = [word for word in lost if edition.later.called(word) is None]
    # No word is reused, so the elder schema does not know these.
    found = [word for word in news if word not in olds]
    # Where words are refused, one that is no longer known matters more than one of another target.
    return first_words([both, [*strange, *lost], found])


def tried_values(edition, source, target):
    """Values of each sort: those that tell whether a source or a target matters, and others."""
    values = [0, "a", "b", ("a",), ("b",)]
    for schema, name in ((edition.elder, source), (edition.later, target)):
        told = [] if name is None else told_values(schema.setting(name))[1:]
        values.extend([value for value in told if value not in values])
    return values


def couples(edition):
    """All (source, target), with None where there is none."""
    pairs = [(edition.source(name), name) for name in edition.later.names]
    return [*pairs, *[(name, None) for name in edition.elder.names if not edition.targets(name)]]


def suspects(edition):
    """Yields rows of entries of which one is taken wrongly if any files are.

    Whether a later setting is right depends on the entries of its words and of those of its
    source alone. Two entries of these, of any values, are enough to show whatever can be wrong:
    one that only one of both hears, and one that meets a demand or is the double of another one.
    """
    for source, target in couples(edition):
        letters = [(word, value) for word in spoken_words(edition, source, target)
                   for value in tried_values(edition, source, target)]
        rows = [[], *[[letter] for letter in letters]]
        rows.extend([[one, other] for one in letters for other in letters])
        base = base_row(edition.elder, [source])
        whole = base_row(edition.elder, [])
        for row in rows:
            yield [*base, *row]
            yield [*whole, *row]
