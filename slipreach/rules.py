"""Slip rules: which slips can happen."""

from slipreach.errors import BadRule
from slipreach.slips import Slip
from slipreach.tokens import SIGNS, is_one_of, is_sign, sort_of

WORDS = ("left", "doubled", "swapped", "word", "number", "sign")


def is_look(thing):
    """Whether any object is a tuple of two unlike tokens."""
    if not isinstance(thing, tuple) or len(thing) != 2:
        return False
    if sort_of(thing[0]) is None or sort_of(thing[1]) is None:
        return False
    return thing[0] != thing[1]


def class_of(token):
    """The word of a rule that allows a token to be written for another one of its class."""
    return "sign" if is_sign(token) else sort_of(token)


def each_once(things):
    """Some strings in their order, each once."""
    return list({thing: True for thing in things})


class SlipRule:
    """A set of parts: words and looks."""

    def __init__(self, *kinds, looks=()):
        for kind in kinds:
            if not is_one_of(kind, WORDS):
                raise BadRule(kind)
        for look in looks:
            if not is_look(look):
                raise BadRule(look)
        self.kinds = tuple([word for word in WORDS if word in kinds])
        self.looks = tuple(sorted(set(looks)))
        self.parts = self.kinds + self.looks

    @staticmethod
    def every():
        """The rule with all six words and no looks."""
        return SlipRule("left", "doubled", "swapped", "word", "number", "sign")

    def __or__(self, other):
        kinds = self.kinds + other.kinds
        looks = self.looks + other.looks
        return made_rule(kinds, looks)

    def __and__(self, other):
        kinds = [kind for kind in self.kinds if kind in other.kinds]
        looks = [look for look in self.looks if look in other.looks]
        return made_rule(kinds, looks)

    def __sub__(self, other):
        kinds = [kind for kind in self.kinds if kind not in other.kinds]
        looks = [look for look in self.looks if look not in other.looks]
        return made_rule(kinds, looks)

    def __eq__(self, other):
        return (isinstance(other, SlipRule) and self.kinds == other.kinds
                and self.looks == other.looks)

    def __contains__(self, x):
        return isinstance(x, (str, tuple)) and x in self.parts

    def __len__(self):
        return len(self.parts)

    def within(self, other):
        """Whether all parts of this rule are in the other one."""
        return all([part in other.parts for part in self.parts])

    def may_write(self, old, token):
        """Whether a token may be written in the place of another one."""
        if class_of(old) == class_of(token) and class_of(token) in self.kinds:
            return True
        return (old, token) in self.looks

    def allows(self, file, slip):
        """Whether the rule allows a slip in a file."""
        if not slip.fits(file):
            return False
        if slip.kind == "written":
            return self.may_write(file[slip.at], slip.token)
        return slip.kind in self.kinds

    def slips(self, file, *, words=(), numbers=()):
        """Yields the allowed slips of a file, each once."""
        seconds = [look[1] for look in self.looks]
        written = each_once([*SIGNS, *words, *numbers, *seconds])
        for at in range(len(file)):
            for kind in ("left", "doubled", "swapped"):
                if self.allows(file, Slip(kind, at)):
                    yield Slip(kind, at)
            for token in written:
                if self.allows(file, Slip("written", at, token)):
                    yield Slip("written", at, token)


def made_rule(kinds, looks):
    """The rule with these words and looks, perhaps given twice."""
    return SlipRule(*kinds, looks=looks)
