"""Common ends: how two readings in different states can both come to a close."""

from slipreach.language import STATES
from slipreach.tokens import SORTS


def closing_pairs(language):
    """A dict with the empty end for each two states in which readings may close."""
    closing = [state for state in STATES if language.closes(state)]
    return {(one, other): () for one in closing for other in closing}


def longer_end(language, ends, pair):
    """An end of two states, made of one sort and a known end, or None."""
    for sort in SORTS:
        following = (language.step(pair[0], sort), language.step(pair[1], sort))
        if following in ends:
            return (sort, *ends[following])
    return None


def common_ends(language):
    """A dict from each two states with a common end to one with the fewest sorts."""
    pairs = [(one, other) for one in STATES for other in STATES]
    ends = closing_pairs(language)
    is_growing = True
    while is_growing:
        # Ends found in one round have one sort more than those of the round before.
        found = {pair: longer_end(language, ends, pair) for pair in pairs if pair not in ends}
        longer = {pair: found[pair] for pair in found if found[pair] is not None}
        is_growing = len(longer) > 0
        ends.update(longer)
    return ends
