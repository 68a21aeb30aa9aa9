"""Slips: one token of a file is left out, doubled, swapped or written otherwise."""

from slipreach.errors import BadSlip
from slipreach.tokens import is_integer, is_one_of, sort_of

KINDS = ("left", "doubled", "swapped", "written")


def is_slip(kind, at, token):
    """Whether any three objects make a slip."""
    if not is_one_of(kind, KINDS):
        return False
    if not is_integer(at) or at < 0:
        return False
    if kind == "written":
        return sort_of(token) is not None
    return token is None


class Slip:
    """What is done to the token at one index of a file."""

    def __init__(self, kind, at, token=None):
        if not is_slip(kind, at, token):
            raise BadSlip(at)
        self.kind = kind
        self.at = at
        self.token = token

    def __eq__(self, other):
        return (isinstance(other, Slip) and self.kind == other.kind
                and self.at == other.at and self.token == other.token)

    def __call__(self, file):
        """The slipped file, a new list. Raises BadSlip(at)."""
        if not self.fits(file):
            raise BadSlip(self.at)
        ahead = list(file[:self.at])
        token = file[self.at]
        if self.kind == "left":
            return [*ahead, *file[self.at + 1:]]
        if self.kind == "doubled":
            return [*ahead, token, *file[self.at:]]
        if self.kind == "swapped":
            return [*ahead, file[self.at + 1], token, *file[self.at + 2:]]
        return [*ahead, self.token, *file[self.at + 1:]]

    def fits(self, file):
        """Whether the index is a place of the slip in a file."""
        if self.at >= len(file):
            return False
        if self.kind == "swapped":
            return self.at + 1 < len(file) and file[self.at + 1] != file[self.at]
        return self.kind != "written" or file[self.at] != self.token


def common_beginning(first, second):
    """How many objects at the beginning of two lists are equal."""
    count = 0
    while count < min(len(first), len(second)) and first[count] == second[count]:
        count += 1
    return count


def trimmed(first, second):
    """Two lists without their longest common beginning, then without the longest common end."""
    ahead = common_beginning(first, second)
    one = list(first[ahead:])
    other = list(second[ahead:])
    behind = common_beginning(one[::-1], other[::-1])
    return one[:len(one) - behind], other[:len(other) - behind]
