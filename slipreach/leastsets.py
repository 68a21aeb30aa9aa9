"""Sets of some things: good ones, least ones, and what adding one thing more does to them."""


def index_sets(count):
    """All sets of so many indexes, by size, then one by one: a list of tuples."""
    found = []
    rows = [()]
    while rows:
        found.extend(rows)
        rows = [(*row, at) for row in rows for at in range(row[-1] + 1 if row else 0, count)]
    return found


def index_orders(count):
    """All orders of so many indexes, compared one by one: a list of tuples."""
    rows = [()]
    for _ in range(count):
        rows = [(*row, at) for row in rows for at in range(count) if at not in row]
    return rows


def things_at(things, indexes):
    """The things at some indexes, a tuple."""
    return tuple([things[at] for at in indexes])


def subsets(things):
    """Yields all sets of some things, by size, then by the places of their things."""
    for indexes in index_sets(len(things)):
        yield things_at(things, indexes)


def is_within(one, other):
    """Whether all indexes of one set are in another one."""
    return all([at in other for at in one])


def least_good(things, good):
    """All good sets without a good lesser one."""
    found = []
    for indexes in index_sets(len(things)):
        if not any([is_within(least, indexes) for least in found]) and good(things_at(things, indexes)):
            found.append(indexes)
    return [things_at(things, indexes) for indexes in found]


def good_sets(things, good):
    """All good sets."""
    rows = list(subsets(things))
    return [one for one in rows if good(one)]


def goodness(things, good):
    """A dict from each set of indexes to whether it is good."""
    return {indexes: good(things_at(things, indexes)) for indexes in index_sets(len(things))}


def with_index(indexes, at):
    """A set of indexes with one more."""
    return tuple(sorted([*indexes, at]))


def spoiled(things, good):
    """All tuples (good set, a thing that spoils it)."""
    known = goodness(things, good)
    return [(things_at(things, indexes), things[at]) for indexes in known if known[indexes]
            for at in range(len(things)) if at not in indexes and not known[with_index(indexes, at)]]


def turns_of(known, order):
    """How often the goodness changes while the indexes are added in an order."""
    path = [known[tuple(sorted(order[:count]))] for count in range(len(order) + 1)]
    return len([at for at in range(len(order)) if path[at] != path[at + 1]])


def turns(things, good):
    """The greatest number of turns, and the first order that has it."""
    known = goodness(things, good)
    orders = index_orders(len(things))
    counts = [turns_of(known, order) for order in orders]
    most = max(counts)
    return most, things_at(things, orders[counts.index(most)])


def covers(one, sets):
    """Whether a set has a string in common with each tuple."""
    return all([any([thing in row for thing in one]) for row in sets])


def least_covers(sets):
    """All least sets of strings that have one in common with each tuple."""
    pool = list({thing: True for row in sets for thing in row})
    return least_good(pool, lambda one: covers(one, sets))
