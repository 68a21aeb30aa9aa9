"""Lanes: what entries of one setting in all layers can lead to, without a slip and with it.

A need is a tuple of what a shape asks of the entries ahead ("none", "any", "some", or "joint")
and behind ("none", "any" or "some"). What a lane leads to is a tuple (first, second, is ahead,
is behind): what is finished without the slip and with it, and whether the entries of this setting
alone already meet a need of "some" or "joint" on each side.
"""

from heapq import heappop, heappush

from slipreach.layers import over
from slipreach.standings import LACKING, REFUSED, cost_of, finished_plainly, met_plainly, plain_below


def spread(starts, ways):
    """A dict from each state that is reached to its least cost and the values on the way there.

    The starts are tuples (state, cost, values); `ways` gives tuples (state, value) behind a state.
    """
    known = {}
    rows = list(starts)
    queue = []
    for number, row in enumerate(rows):
        heappush(queue, (row[1], number))
    while queue:
        cost, number = heappop(queue)
        state, _, values = rows[number]
        if state in known:
            continue
        known[state] = (cost, values)
        for following, value in ways(state):
            if following not in known:
                longer = cost + cost_of(value)
                heappush(queue, (longer, len(rows)))
                rows.append((following, longer, (*values, value)))
    return known


def put_least(known, key, row):
    """Puts a tuple (cost, ..) under a key of a dict, if none with a lower cost is there."""
    if key not in known or row[0] < known[key][0]:
        known[key] = row


def is_met(need, is_so, value):
    """Whether a need of one side is met behind, or ahead of, one more entry with a value."""
    if need == "joint":
        return value is not None
    return need == "some" or is_so


class Lane:
    """The standings of one setting beside a row."""

    def __init__(self, sight, name):
        self.sight = sight
        self.name = name
        self.alphabet = sight.letters(name)
        self.met_rows = {}
        self.over_rows = {}
        self.belows = {}
        self.aheads = {}
        self.found = {}

    def met(self, seen, value):
        """The seen behind one more entry, or "schema"."""
        if seen == REFUSED:
            return REFUSED
        if (seen, value) not in self.met_rows:
            self.met_rows[(seen, value)] = met_plainly(self.sight, self.name, seen, [value])
        return self.met_rows[(seen, value)]

    def met_all(self, seen, values):
        """The seen behind some entries, or "schema"."""
        for value in values:
            seen = self.met(seen, value)
        return seen

    def over(self, below, seen):
        """The below behind one more layer, or "schema"."""
        if below == REFUSED or seen == REFUSED:
            return REFUSED
        if (below, seen) not in self.over_rows:
            total = over(self.sight.house.schema, self.name, below, seen)
            self.over_rows[(below, seen)] = plain_below(self.sight, self.name, total)
        return self.over_rows[(below, seen)]

    def finish(self, below, seen):
        """What is finished under the top layer, "joining", or "schema"."""
        if below == REFUSED or seen == REFUSED:
            return REFUSED
        return finished_plainly(self.sight, self.name, below, seen)

    def ways_ahead(self, state, need):
        """Tuples (state, value) behind one more entry ahead of the slip."""
        seen, is_ahead = state
        if need == "none":
            return []
        rows = [(self.met(seen, value), value) for value in self.alphabet]
        return [((found, is_met(need, is_ahead, value)), value) for found, value in rows if found != REFUSED]

    def ahead_rows(self, need):
        """A dict from (seen, whether the need is met) to cost and values, for the entries ahead of the slip."""
        if need not in self.aheads:
            self.aheads[need] = spread([(((), False), 0, ())], lambda state: self.ways_ahead(state, need))
        return self.aheads[need]

    def ways_behind(self, state, need):
        """Tuples (state, value) behind one more entry that stands behind the slip."""
        seen, other, is_ahead, is_behind = state
        if need == "none":
            return []
        rows = [(self.met(seen, value), self.met(other, value), value) for value in self.alphabet]
        return [((one, two, is_ahead, is_met(need, is_behind, value)), value)
                for one, two, value in rows if one != REFUSED]

    def below_rows(self, layer):
        """A dict from the belows behind all layers under a layer to cost and values in each of them."""
        if layer == 0:
            return {(): (0, ())}
        if layer not in self.belows:
            known = {}
            seens = self.ahead_rows("any")
            lower = self.below_rows(layer - 1)
            for below in lower:
                for state in seens:
                    cost = lower[below][0] + seens[state][0]
                    rows = (*lower[below][1], seens[state][1])
                    put_least(known, self.over(below, state[0]), (cost, rows))
            self.belows[layer] = known
        return self.belows[layer]

    def slip_rows(self, before, after, needs):
        """A dict from (seen, seen with the slip, is ahead, is behind) behind the slip's layer.

        To cost, values ahead and values behind.
        """
        starts = []
        aheads = self.ahead_rows(needs[0])
        for seen, is_ahead in aheads:
            cost, values = aheads[(seen, is_ahead)]
            one = self.met_all(seen, before)
            if one != REFUSED:
                starts.append(((one, self.met_all(seen, after), is_ahead, False), cost, (values,)))
        rows = spread(starts, lambda state: self.ways_behind(state, needs[1]))
        return {state: (rows[state][0], (rows[state][1][0], rows[state][1][1:])) for state in rows}

    def at_slip_end(self, layer, rows):
        """All that may stand at the end of the slip's layer: tuples of both belows, both seens, and a row."""
        lower = self.below_rows(layer)
        return [((below, below), (state[0], state[1]), state[2:],
                 (lower[below][0] + rows[state][0], (*lower[below][1], rows[state][1])))
                for below in lower for state in rows]

    def at_upper_end(self, rows):
        """All that may stand at the end of a layer above the slip's one."""
        seens = self.ahead_rows("any")
        return [((state[0], state[1]), (seen[0], seen[0]), state[2:],
                 (rows[state][0] + seens[seen][0], (*rows[state][1], seens[seen][1])))
                for state in rows for seen in seens]

    def raised(self, ends):
        """A dict from (below, below with the slip, is ahead, is behind) behind a layer to cost and values."""
        known = {}
        for belows, seens, sides, row in ends:
            key = (self.over(belows[0], seens[0]), self.over(belows[1], seens[1]), *sides)
            put_least(known, key, row)
        return known

    def finished(self, ends):
        """A dict from all that the lane leads to, if the layer is the top, to cost and values."""
        known = {}
        for belows, seens, sides, row in ends:
            first = self.finish(belows[0], seens[0])
            if first != LACKING:
                put_least(known, (first, self.finish(belows[1], seens[1]), *sides), row)
        return known

    def endings(self, layer, before, after, needs):
        """A dict from all that the lane leads to, to its least cost and the values in each layer.

        Those of the slip's layer are a tuple (values ahead, values behind). The cost is without
        the entries that the slip changes.
        """
        key = (layer, before, after, needs)
        if key not in self.found:
            ends = self.at_slip_end(layer, self.slip_rows(before, after, needs))
            for _ in range(layer + 1, self.sight.house.layers):
                ends = self.at_upper_end(self.raised(ends))
            self.found[key] = self.finished(ends)
        return self.found[key]
