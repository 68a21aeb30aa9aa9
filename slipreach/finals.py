"""Finals: what the settings can have at the end, without a slip and with it, and by which weight."""

from heapq import heappop, heappush

from slipreach.standings import start, ways_on


def weights(beside, name, layer, before, after):
    """A dict from each standing that is reached to its least weight, by weight."""
    known = {}
    queue = [(0, 0)]
    rows = [start()]
    while queue:
        weight, number = heappop(queue)
        standing = rows[number]
        if standing in known:
            continue
        known[standing] = weight
        for row, cost in ways_on(beside, name, layer, before, after, standing):
            if row not in known:
                # Standings do not compare, so the queue tells them apart by their numbers.
                heappush(queue, (weight + cost, len(rows)))
                rows.append(row)
    return known


def finals(beside, name, layer, before, after):
    """Tuples (first, second, least weight) of all standings at the end, by weight."""
    known = weights(beside, name, layer, before, after)
    return [(row[1], row[2], known[row]) for row in known if row[0] == "end"]
