"""Slips inside of lists: what a builder can see of a list without a slip and with it."""

from slipreach.conducts import closure, conduct
from slipreach.rowkinds import fresh_words, rows_of_places, single_words
from slipreach.steps import written_words


class ListPair:
    """A list without a slip and with it: both conducts, what fills the parts, and both lists."""

    def __init__(self, sketch, before, after):
        self.first = sketch.first
        self.second = sketch.second
        self.words = dict(sketch.words)
        self.head = sketch.head
        self.tail = sketch.tail
        self.unslipped = items_or_none(before, self.words, self.head, self.tail)
        self.slipped = items_or_none(after, self.words, self.head, self.tail)


def items_of_part(part, words, head, tail):
    """The items that one part stands for."""
    if part[0] == "head":
        return list(head)
    if part[0] == "tail":
        return list(tail)
    return [" ".join([words[symbol] for symbol in part[1:]])]


def items_of(parts, words, head, tail):
    """The items that some parts stand for, a tuple."""
    return tuple([item for part in parts for item in items_of_part(part, words, head, tail)])


def items_or_none(parts, words, head, tail):
    """The items that some parts stand for; None without a list."""
    return None if parts is None else items_of(parts, words, head, tail)


def symbols_of(parts):
    """The symbols in some parts, perhaps repeated; none without a list."""
    rows = [] if parts is None else parts
    return [symbol for part in rows if part[0] in ("item", "pair") for symbol in part[1:]]


class Edge:
    """The head or the tail: in which of both lists it stands, and what it may be."""

    def __init__(self, word, before, after):
        rows = [[] if parts is None else [part for part in parts if part[0] == word] for parts in (before, after)]
        self.word = word
        self.in_before = len(rows[0]) > 0
        self.in_after = len(rows[1]) > 0
        self.count = len(rows[0]) + len(rows[1])
        self.least = max([0, *[part[1] for row in rows for part in row]])

    def choices(self, lists):
        """Tuples (Conduct, items) out of a closure, or nothing alone where the edge does not stand."""
        if self.count == 0:
            return [(None, ())]
        return [(total, things) for total, things in lists if len(things) >= self.least]


class Sketch:
    """Both lists with some of their parts, and how many items the edges have in them."""

    def __init__(self, first, second, words):
        self.first = first
        self.second = second
        self.words = words
        self.head = ()
        self.tail = ()
        self.cost = 0

    def both_seen(self):
        """A tuple that is equal for two sketches exactly if a builder sees the same in them."""
        return (None if self.first is None else self.first.key, None if self.second is None else self.second.key)

    def with_edge(self, edge, total, things):
        """The sketch with the items of an edge, of which the conduct is told."""
        first = put_together(edge.word, self.first, total) if edge.in_before else self.first
        second = put_together(edge.word, self.second, total) if edge.in_after else self.second
        sketch = Sketch(first, second, self.words)
        sketch.head = things if edge.word == "head" else self.head
        sketch.tail = things if edge.word == "tail" else self.tail
        sketch.cost = self.cost + edge.count * len(things)
        return sketch


def put_together(word, inner, total):
    """The conduct of inner items with the head ahead of them, or the tail behind them."""
    return total + inner if word == "head" else inner + total


def word_fillings(symbols, known, unlike, fixed):
    """Words for some symbols, in all ways that can matter: a list of dicts."""
    free = [symbol for symbol in list({symbol: True for symbol in symbols}) if symbol not in fixed]
    fresh = fresh_words([*known, *[fixed[symbol] for symbol in fixed]], len(free))
    fillings = []
    for row in rows_of_places(known, fresh, len(free)):
        words = {symbol: word for symbol, word in zip(free, row)}
        words.update(fixed)
        if all([one not in words or other not in words or words[one] != words[other] for one, other in unlike]):
            fillings.append(words)
    return fillings


def seen_items(parts, words, values):
    """What a builder can tell of the items of some parts, without the edges: a tuple or None."""
    things = items_or_none(parts, words, (), ())
    return None if things is None else tuple([thing if thing in values else "" for thing in things])


def inner_sketches(builder, row, name, before, after, fillings):
    """The sketches of both lists without their edges, one for each way in which they can be seen."""
    values = [*written_words(builder), *[row[column] for column in builder.table.words]]
    kept = {}
    for words in fillings:
        seen = (seen_items(before, words, values), seen_items(after, words, values))
        if seen not in kept:
            conducts = [None if parts is None else conduct(builder, row, name, items_of(parts, words, (), ()))
                        for parts in (before, after)]
            kept[seen] = Sketch(conducts[0], conducts[1], words)
    return [kept[seen] for seen in kept]


def with_edges(sketches, edge, lists):
    """The sketches with all that an edge may be: one with the fewest items for each way to be seen."""
    kept = {}
    for sketch in sketches:
        for total, things in edge.choices(lists):
            longer = sketch.with_edge(edge, total, things)
            seen = longer.both_seen()
            if seen not in kept or longer.cost < kept[seen].cost:
                kept[seen] = longer
    return [kept[seen] for seen in kept]


def list_pairs(builder, row, name, spots, before, after, *, unlike=(), fixed=None):
    """One ListPair for each list pair, with a least filling. Raises TooManyConducts(60)."""
    lists = closure(builder, row, name, spots)
    told = {} if fixed is None else fixed
    known = single_words([*written_words(builder), *[row[column] for column in builder.table.words]])
    fillings = word_fillings([*symbols_of(before), *symbols_of(after)], known, unlike, told)
    sketches = inner_sketches(builder, row, name, before, after, fillings)
    for word in ("head", "tail"):
        sketches = with_edges(sketches, Edge(word, before, after), lists)
    return [ListPair(sketch, before, after) for sketch in sketches]
