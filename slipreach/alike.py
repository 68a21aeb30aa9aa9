"""Whether two houses make the same of all files, and files of least weight that show where not."""

from slipreach.contrasts import contrasts
from slipreach.errors import BadDifference
from slipreach.house import weight
from slipreach.pairing import DIFFERENCES, Pair, Parting, shown
from slipreach.playing import tried
from slipreach.tokens import is_one_of

ROW_WORDS = ("more", "less")


class Likeness:
    """The differences of two houses, and a Parting for each of them."""

    def __init__(self, first, second, partings):
        self.first = first
        self.second = second
        self.partings = partings
        self.differences = tuple([word for word in DIFFERENCES if word in partings])
        self.word = "apart" if self.differences else "alike"

    @property
    def keeps(self):
        """Whether no files show any other difference than "first"."""
        return self.differences == () or self.differences == ("first",)

    def parting(self, difference):
        """A Parting that shows a difference, or None. Raises BadDifference(word)."""
        if not is_one_of(difference, DIFFERENCES):
            raise BadDifference(difference)
        if difference not in self.partings:
            return None
        told = self.partings[difference]
        return Parting(difference, told.files, told.row, told.weight)


def alike(first, second):
    """The Likeness of two houses. Raises BadPair(what), TooManyConducts(60)."""
    partings = {}
    for contrast in contrasts(Pair(first, second)):
        rows = contrast.least_rows()
        for word in rows:
            cost, standings = rows[word]
            if word not in partings or cost < partings[word].weight:
                row = contrast.row if word in ROW_WORDS else None
                partings[word] = Parting(word, contrast.files_of(standings), row, cost)
    return Likeness(first, second, partings)


def are_files_right(difference, one, other):
    """Whether each house takes or refuses files as a difference says; a house that refuses has no plan."""
    return (one is None) == (difference == "first") and (other is None) == (difference == "second")


def is_row_right(difference, row, one, other):
    """Whether a row is one that just the house takes that should; None for the first two differences."""
    if difference not in ROW_WORDS:
        return row is None
    if row not in one.condition.table:
        return False
    wanted = (False, True) if difference == "more" else (True, False)
    return (one.condition.takes(row), other.condition.takes(row)) == wanted


def parting_fault(first, second, parting):
    """The first of "difference", "files", "row" and "weight" that is wrong, or None. Raises as shown."""
    shown(first, second, parting.files)
    difference = parting.difference
    if not is_one_of(difference, DIFFERENCES):
        return "difference"
    one, other = tried(first, parting.files)[0], tried(second, parting.files)[0]
    if not are_files_right(difference, one, other):
        return "files"
    if not is_row_right(difference, parting.row, one, other):
        return "row"
    return None if weight(first, parting.files) == parting.weight else "weight"
