"""Joints: what two houses know of a group of names, beside a row, behind entries that both read.

A standing is a tuple (layer, first, second), or ("end", first, second); first and second are
"refused", or a tuple of (seen, below) for each name, at the end of what is finished for it.
"""

from heapq import heappop, heappush

from slipreach.beside import choice_words, default_words
from slipreach.errors import BadRow
from slipreach.gaps import kind_numbers
from slipreach.rowkinds import fresh_words
from slipreach.schema import all_words
from slipreach.sights import Sight, least_lists
from slipreach.standings import LACKING, REFUSED, cost_of, finished_plainly, met_plainly, over_plainly
from slipreach.steps import written_numbers, written_words
from slipreach.tokens import is_integer, is_number

NO = "refused"
END = "end"
STRANGE_VALUE = 0


def house_words(house):
    """The word values that choices, defaults and the builder of a house tell."""
    schema = house.schema
    return [*choice_words(schema), *default_words(schema), *written_words(house.builder)]


def house_numbers(house):
    """The numbers that defaults and the builder of a house tell."""
    defaults = [setting.default for setting in house.schema if is_integer(setting.default)]
    return [*written_numbers(house.builder), *defaults]


def sights_of(pair, row):
    """What both houses can tell apart beside a row: two sights. Raises TooManyConducts(60)."""
    table = pair.first.builder.table
    words = [*house_words(pair.first), *house_words(pair.second), *[row[column] for column in table.words]]
    numbers = [*house_numbers(pair.first), *house_numbers(pair.second), *[row[column] for column in table.numbers]]
    amounts = [number for number in sorted(set(kind_numbers(numbers))) if is_number(number)]
    sights = [Sight(house, row, sorted(set(words)), amounts) for house in (pair.first, pair.second)]
    for sight in sights:
        sight.settle({})
    return sights


def started(names):
    """What a house knows of some names ahead of all entries."""
    return tuple([((), ()) for _ in names])


class Side:
    """One of both houses, and the names of a group in it."""

    def __init__(self, sight, names):
        self.sight = sight
        self.schema = sight.house.schema
        self.names = names
        # A house comes to know the same again and again, in all standings of the other house.
        self.found = {}

    def view_of(self, word):
        """The setting that a word calls: a list of (sight, name), empty if it calls none."""
        name = self.schema.called(word)
        return [] if name is None else [(self.sight, name)]

    def entered(self, known, entry):
        """What the house knows behind an entry, or "refused"."""
        if (known, entry) not in self.found:
            self.found[(known, entry)] = self.known_behind(known, entry)
        return self.found[(known, entry)]

    def known_behind(self, known, entry):
        """What entered tells."""
        name = self.schema.called(entry[0])
        if known == NO or (name is None and self.schema.unknown == "refuse"):
            return NO
        if name is None:
            return known
        at = self.names.index(name)
        seen = met_plainly(self.sight, name, known[at][0], [self.sight.plain_value(name, entry[1])])
        return NO if seen == REFUSED else (*known[:at], (seen, known[at][1]), *known[at + 1:])

    def raised(self, known):
        """What the house knows behind a layer that is not the top."""
        if known == NO:
            return NO
        belows = [over_plainly(self.sight, name, below, seen) for name, (seen, below) in zip(self.names, known)]
        return tuple([((), below) for below in belows])

    def finished(self, known):
        """What is finished for all names behind the top layer, or "refused"."""
        if known == NO:
            return NO
        found = [finished_plainly(self.sight, name, below, seen) for name, (seen, below) in zip(self.names, known)]
        return NO if LACKING in found else tuple(found)


def told_value(views, value):
    """A key that is equal for two values that are alike to all views; nothing is like no other one."""
    return "nothing" if value is None else tuple([sight.told_of(name, value) for sight, name in views])


def values_for(views, sight):
    """Values with the fewest items, of which no two are alike to all views."""
    lists = [view for view in views if view[0].house.schema.setting(view[1]).kind == "list"]
    values = [*sight.singles, *sight.numbers, *least_lists(lists, sight.all_items())]
    if sight.house.language.nothing:
        values.append(None)
    found = {}
    for value in values:
        key = told_value(views, value)
        if key not in found or cost_of(value) < cost_of(found[key]):
            found[key] = value
    return [found[key] for key in found]


class Joint:
    """A group of a pair beside a row."""

    def __init__(self, pair, group, row):
        if row not in pair.first.builder.table:
            raise BadRow()
        self.pair = pair
        self.group = group
        self.row = dict(row)
        sights = sights_of(pair, self.row)
        self.sides = (Side(sights[0], group.first), Side(sights[1], group.second))
        self.alphabet = self.found_letters()

    def found_letters(self):
        """The letters."""
        if self.group.words == ():
            words = [*all_words(self.pair.first.schema), *all_words(self.pair.second.schema)]
            return [(fresh_words(words, 1)[0], STRANGE_VALUE)]
        words = {}
        for word in self.group.words:
            views = [view for side in self.sides for view in side.view_of(word)]
            words.setdefault(tuple([side.schema.called(word) for side in self.sides]), (word, views))
        return [(word, value) for word, views in [words[key] for key in words]
                for value in values_for(views, self.sides[0].sight)]

    def letters(self):
        """Entries of the group, one or more of each sort."""
        return list(self.alphabet)

    def start(self):
        """The standing ahead of all entries."""
        return (0, started(self.group.first), started(self.group.second))

    def entered(self, standing, entry):
        """The standing behind an entry."""
        layer, first, second = standing
        return (layer, self.sides[0].entered(first, entry), self.sides[1].entered(second, entry))

    def raised(self, standing):
        """The standing behind the end of a layer."""
        layer, first, second = standing
        if layer < self.pair.first.layers - 1:
            return (layer + 1, self.sides[0].raised(first), self.sides[1].raised(second))
        return (END, self.sides[0].finished(first), self.sides[1].finished(second))

    def onward(self, standing):
        """All ways to go on: tuples (standing, cost, letter or None)."""
        if standing[0] == END:
            return []
        rows = [(self.entered(standing, entry), cost_of(entry[1]), entry) for entry in self.alphabet]
        return [*rows, (self.raised(standing), 0, None)]

    def reached(self):
        """A dict from each standing to (weight, the standing before it, the letter or None), by weight."""
        known = {}
        rows = [(self.start(), None, None)]
        queue = [(0, 0)]
        while queue:
            weight, number = heappop(queue)
            standing, before, letter = rows[number]
            if standing not in known:
                known[standing] = (weight, before, letter)
                for following, cost, entry in self.onward(standing):
                    if following not in known:
                        # Standings do not compare, so the queue tells them apart by their numbers.
                        heappush(queue, (weight + cost, len(rows)))
                        rows.append((following, standing, entry))
        return known

    def standings(self):
        """The table: tuples (standing, weight), by weight."""
        known = self.reached()
        return [(standing, known[standing][0]) for standing in known]

    def step_fault(self, rows, firsts, k):
        """Whether a way from a tuple leads to a standing that is in no tuple, or by less weight."""
        standing, weight = rows[k]
        for following, cost, _ in self.onward(standing):
            if following not in firsts or rows[firsts[following]][1] > weight + cost:
                return True
        return False

    def fault(self, rows):
        """The first fault of a list of tuples (standing, weight) that is said to be the table, or None."""
        firsts = {}
        sources = {(self.start(), 0): True}
        for k, (standing, weight) in enumerate(rows):
            firsts.setdefault(standing, k)
            sources.update({(row[0], weight + row[1]): True for row in self.onward(standing)})
        if (self.start(), 0) not in rows:
            return ("start",)
        for k, row in enumerate(rows):
            if firsts[row[0]] != k:
                return ("double", k)
            if self.step_fault(rows, firsts, k):
                return ("step", k)
            if row not in sources:
                return ("source", k)
        return None
