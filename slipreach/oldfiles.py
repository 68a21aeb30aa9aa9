"""Old files: what another house makes of files that a house takes."""

from slipreach.errors import BadOld, BadPair
from slipreach.playing import parted, tried


class Replay:
    """What another house makes of files: it keeps, refuses or changes them."""

    def __init__(self, word, heard, rows, is_same):
        self.word = word
        self.stage, self.error = heard
        self.more, self.less = rows
        self.is_same = is_same


def check_pair(house, other):
    """Raises BadPair(what) unless two houses have as many layers and equal tables."""
    if house.layers != other.layers:
        raise BadPair("layers")
    if house.builder.table != other.builder.table:
        raise BadPair("table")


def replayed(house, other, files, index):
    """The Replay of the old files with an index. Raises BadFiles, BadOld(index)."""
    plan, _, _ = tried(house, files)
    if plan is None:
        raise BadOld(index)
    found, at, name = tried(other, files)
    if found is None:
        return Replay("refused", (at, name), (None, None), False)
    rows = parted(plan, found)
    word = "kept" if rows == (None, None) else "changed"
    return Replay(word, (None, None), rows, plan.settings == found.settings)


def replay(house, other, files):
    """What another house makes of files. Raises BadPair(what), BadFiles, BadOld(0)."""
    check_pair(house, other)
    return replayed(house, other, files, 0)


def lost(house, other, olds):
    """The indexes of all files that are not kept. Raises BadPair(what), BadFiles, BadOld(index)."""
    check_pair(house, other)
    words = [replayed(house, other, files, index).word for index, files in enumerate(olds)]
    return [index for index, word in enumerate(words) if word != "kept"]


def kept_fault(house, other, olds):
    """The index of the first files that are not kept, or None. Raises as lost."""
    indexes = lost(house, other, olds)
    return indexes[0] if indexes else None
