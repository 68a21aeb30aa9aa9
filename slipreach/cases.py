"""Cases: one slip in one file, and the shapes of which it is an instance."""

from slipreach.errors import Unreadable
from slipreach.fillings import entry_fillings, filled_entries, is_filling, keeps
from slipreach.reader import entries_by, read, role_of, spans_of, states
from slipreach.tokens import is_sign, sort_of


def read_or_none(language, file):
    """The entries of a file, or None if it is not readable."""
    try:
        return read(language, file)
    except Unreadable:
        return None


def number_of(rows, at):
    """The number of the span that has an index."""
    return [first <= at < behind for first, behind in rows].index(True)


class Case:
    """A slip in a readable file: the entries without it and with it."""

    def __init__(self, language, file, slip):
        way = states(language, file)
        rows = spans_of(way)
        self.entries = entries_by(file, way)
        self.lasts = [file[behind - 1] for _, behind in rows]
        self.slip = slip
        self.is_place = slip.fits(file)
        self.role = None
        self.owner = None
        self.slipped = None
        if self.is_place:
            self.role = role_of(sort_of(file[slip.at]), way[slip.at + 1])
            self.owner = number_of(rows, slip.at)
            self.slipped = read_or_none(language, slip(file))

    def stands(self, shape, first, behind):
        """Whether the entries from an index up to another one stand as those of a shape should."""
        if first < 0 or behind > len(self.entries):
            return False
        if (shape.ahead == "none" and first > 0) or (shape.ahead == "some" and first == 0):
            return False
        many = len(self.entries)
        if (shape.behind == "none" and behind < many) or (shape.behind == "some" and behind == many):
            return False
        return not shape.joint or self.lasts[first - 1] != ";"

    def token_fillings(self, shape):
        """The filling that the written token gives, in a list, or no filling."""
        if shape.token is None or is_sign(shape.token):
            return [{}] if self.slip.token == shape.token else []
        return [{shape.token: self.slip.token}] if is_filling(shape.token, self.slip.token) else []

    def has_after(self, shape, filling, first, behind):
        """Whether the slipped file has the entries that a shape tells, or both have none."""
        if shape.after is None:
            return True
        changed = filled_entries(shape.after, filling)
        return self.slipped == [*self.entries[:first], *changed, *self.entries[behind:]]

    def filling_of(self, shape):
        """A filling by which the slip is an instance of a shape, or None."""
        if not self.is_place or self.slip.kind != shape.kind or self.role != shape.role:
            return None
        if (shape.after is None) != (self.slipped is None):
            return None
        first = self.owner - shape.owner
        behind = first + len(shape.before)
        if not self.stands(shape, first, behind):
            return None
        written = self.token_fillings(shape)
        fillings = entry_fillings(shape.before, self.entries[first:behind]) if written else []
        for filling in [{**one, **other} for one in fillings for other in written]:
            if keeps(filling, shape.fixed, shape.unlike):
                if self.has_after(shape, filling, first, behind):
                    return filling
        return None
