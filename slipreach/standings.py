"""Standings: what the entries of one setting say up to some point, without a slip and with it.

A standing is a tuple (layer, phase, seen1, seen2, below1, below2), or ("end", first, second).
"""

from slipreach.errors import DoubledName, EmptyList, Lacking, TopLacking, WrongKind
from slipreach.layers import finished, over
from slipreach.schema import met

REFUSED = "schema"
LACKING = "joining"


def start():
    """The standing ahead of all entries."""
    return (0, 0, (), (), (), ())


def cost_of(value):
    """What an entry with a value counts: 1, and the items of its list."""
    return 1 + len(value) if isinstance(value, tuple) else 1


def plain_seen(beside, name, seen):
    """A seen with a plain value in it."""
    return ("value", beside.plain_value(name, seen[1])) if len(seen) == 2 else seen


def plain_below(beside, name, below):
    """A below, or what is finished, with a plain value in it."""
    return () if below == () else (beside.plain_value(name, below[0]),)


def met_plainly(beside, name, seen, values):
    """The seen behind entries with some values, or "schema" if the checking refuses one of them."""
    try:
        for value in values:
            seen = plain_seen(beside, name, met(beside.house.schema, name, seen, value))
    except WrongKind:
        return REFUSED
    except DoubledName:
        return REFUSED
    return seen


def over_plainly(beside, name, below, seen):
    """The below behind one more layer."""
    return plain_below(beside, name, over(beside.house.schema, name, below, seen))


def finished_plainly(beside, name, below, seen):
    """What is finished of the below under the top layer and its seen, or "joining" if that raises."""
    total = over_plainly(beside, name, below, seen)
    try:
        return plain_below(beside, name, finished(beside.house.schema, name, total, seen))
    except TopLacking:
        return LACKING
    except Lacking:
        return LACKING
    except EmptyList:
        return LACKING


def met_in_both(beside, name, standing, phase, values, others):
    """The standing behind some values without the slip and others with it, in a list, or none."""
    layer, _, seen, other, below, lower = standing
    seen = met_plainly(beside, name, seen, values)
    if seen == REFUSED:
        return []
    if other != REFUSED:
        other = met_plainly(beside, name, other, others)
    return [(layer, phase, seen, other, below, REFUSED if other == REFUSED else lower)]


def layer_ended(beside, name, standing):
    """The standing behind the end of a layer, in a list, or none."""
    layer, phase, seen, other, below, lower = standing
    if layer < beside.house.layers - 1:
        total = over_plainly(beside, name, below, seen)
        if other == REFUSED:
            return [(layer + 1, phase, (), REFUSED, total, REFUSED)]
        return [(layer + 1, phase, (), (), total, over_plainly(beside, name, lower, other))]
    first = finished_plainly(beside, name, below, seen)
    if first == LACKING:
        return []
    return [("end", first, REFUSED if other == REFUSED else finished_plainly(beside, name, lower, other))]


def ways_on(beside, name, layer, before, after, standing):
    """Tuples (standing, what the step to it counts), in the order of the steps."""
    if standing[0] == "end":
        return []
    ways = []
    for value in beside.letters(name):
        ways.extend([(row, cost_of(value))
                     for row in met_in_both(beside, name, standing, standing[1], [value], [value])])
    is_ahead = standing[0] == layer and standing[1] == 0
    rows = met_in_both(beside, name, standing, 1, before, after) if is_ahead else layer_ended(beside, name, standing)
    return [*ways, *[(row, 0) for row in rows]]


def steps(beside, name, layer, before, after, standing):
    """The standings behind one step, without duplicates. Raises NoSetting, TooManyConducts(60)."""
    return list({row: True for row, _ in ways_on(beside, name, layer, before, after, standing)})


def table(beside, name, layer, before, after):
    """All standings that are reached, each once, the start first."""
    found = [start()]
    known = {start(): True}
    at = 0
    while at < len(found):
        for row in steps(beside, name, layer, before, after, found[at]):
            if row not in known:
                known[row] = True
                found.append(row)
        at += 1
    return found


def table_fault(beside, name, layer, before, after, rows):
    """The first fault of a list of standings that should be closed under steps, or None."""
    known = {row: True for row in rows}
    if start() not in known:
        return ("start",)
    for index, standing in enumerate(rows):
        for row in steps(beside, name, layer, before, after, standing):
            if row not in known:
                return ("step", index, row)
    return None
