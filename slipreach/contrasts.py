"""Contrasts: what files can make of both houses of a pair, beside all rows, by least weight."""

from slipreach.joints import END, NO, Joint, house_numbers, house_words, sights_of
from slipreach.lanes import put_least
from slipreach.profiles import list_names
from slipreach.rowkinds import kind_rows
from slipreach.tokens import is_word
from slipreach.writer import plain


def told_word(sights, word):
    """What both houses can tell of a word in each setting, a string."""
    told = [[sight.told_of(setting.name, (word,) if setting.kind == "list" else word)
             for setting in sight.house.schema] for sight in sights]
    return str(told)


def told_pair(sights, item):
    """What both houses can tell of a pair as an item, a string."""
    return str([sight.single_keys(list_names(sight.house.schema), item) for sight in sights])


def told_number(sights, number):
    """What both houses can tell of a number in each setting, a string."""
    return str([[sight.told_of(name, number) for name in sight.house.schema.names] for sight in sights])


def row_profile(sights):
    """A string that is equal for two rows if the same differences come of files beside both."""
    one = sights[0]
    pairs = [item for item in one.all_items() if not is_word(item)]
    roles = [sorted(set([told_word(sights, word) for word in one.singles])),
             sorted(set([told_pair(sights, item) for item in pairs])),
             sorted(set([told_number(sights, number) for number in one.numbers]))]
    rest = [[sight.row_told(), [sight.default_told(name) for name in sight.house.schema.names]] for sight in sights]
    return str([roles, rest])


def read_worths(builder, names, worths):
    """Those of the worths of some names that a builder reads: a tuple of (name, worth), or "refused"."""
    if worths == NO:
        return NO
    return tuple([(name, worth) for name, worth in zip(names, worths) if name in builder.names])


def both_worths(one, other):
    """The worths of two groups, or "refused"."""
    return NO if NO in (one, other) else (*one, *other)


def path_of(known, standing):
    """The entries of all layers on the way to a standing: a list of lists."""
    layers = [[]]
    while standing is not None:
        _, before, letter = known[standing]
        if letter is not None:
            layers[-1].append(letter)
        elif before is not None and standing[0] != END:
            layers.append([])
        standing = before
    return [layer[::-1] for layer in layers[::-1]]


class Contrast:
    """Beside one row: the least files for each thing that both houses can make of files."""

    def __init__(self, pair, row):
        self.pair = pair
        self.row = row
        self.builders = (pair.first.builder, pair.second.builder)
        self.tables = []
        self.rows = {((), ()): (0, ())}
        for group in pair.groups():
            self.take(Joint(pair, group, row))

    def take(self, joint):
        """Goes on to one more group."""
        known = joint.reached()
        self.tables.append(known)
        ends = {}
        for standing in known:
            if standing[0] == END:
                one = read_worths(self.builders[0], joint.group.first, standing[1])
                other = read_worths(self.builders[1], joint.group.second, standing[2])
                put_least(ends, (one, other), (known[standing][0], standing))
        longer = {}
        for firsts, seconds in self.rows:
            cost, standings = self.rows[(firsts, seconds)]
            for one, other in ends:
                key = (both_worths(firsts, one), both_worths(seconds, other))
                if key != (NO, NO):
                    put_least(longer, key, (cost + ends[(one, other)][0], (*standings, ends[(one, other)][1])))
        self.rows = longer

    def made(self, at, worths):
        """What a house makes of the worths of its settings: "refused", or whether it takes the row."""
        if worths == NO:
            return NO
        values = {name: worth[0] for name, worth in worths if worth != ()}
        found = self.builders[at].outcome(self.row, values)
        return NO if found == "refused" else found is not False

    def least_rows(self):
        """A dict from the differences that files show beside the row to (weight, standings)."""
        known = {}
        firsts = {worths: self.made(0, worths) for worths, _ in self.rows}
        seconds = {worths: self.made(1, worths) for _, worths in self.rows}
        for one, other in self.rows:
            word = difference_of(firsts[one], seconds[other])
            if word is not None:
                put_least(known, word, self.rows[(one, other)])
        return known

    def files_of(self, standings):
        """Files that lead to a standing at the end in each group."""
        paths = [path_of(known, standing) for known, standing in zip(self.tables, standings)]
        files = []
        for layer in range(self.pair.first.layers):
            entries = [entry for path in paths for entry in path[layer]]
            files.append(plain(self.pair.first.language, entries) if entries else None)
        return files


def difference_of(one, other):
    """The difference between what both houses make of files beside a row, or None."""
    if one == NO or other == NO:
        if one == other:
            return None
        return "first" if one == NO else "second"
    if one == other:
        return None
    return "more" if other else "less"


def contrasts(pair):
    """The contrasts beside all rows that matter. Raises TooManyConducts(60)."""
    words = [*house_words(pair.first), *house_words(pair.second)]
    numbers = [*house_numbers(pair.first), *house_numbers(pair.second)]
    seen = set()
    found = []
    for row in kind_rows(pair.first.builder.table, words, numbers):
        profile = row_profile(sights_of(pair, row))
        if profile not in seen:
            seen.add(profile)
            found.append(Contrast(pair, row))
    return found
