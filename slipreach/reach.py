"""Reach: whether the slips of a rule reach far in a language, and the shapes of near ones."""

from slipreach.cases import Case
from slipreach.drafts import drawn_shapes
from slipreach.farness import far_file
from slipreach.pairs import common_ends


class Reach:
    """What slips of a rule can do to the files of a language."""

    def __init__(self, language, rule, far, shapes):
        self.language = language
        self.rule = rule
        self.word = "near" if far is None else "far"
        self.file, self.slip = (None, None) if far is None else far
        self.shapes = shapes

    def find(self, file, slip):
        """The index and a filling of the first shape of which a slip is an instance, or None."""
        case = Case(self.language, file, slip)
        if not self.rule.allows(file, slip):
            return None
        for index, shape in enumerate(self.shapes):
            filling = case.filling_of(shape)
            if filling is not None:
                return index, filling
        return None


def reach(language, rule):
    """The reach of a rule in a language."""
    ends = common_ends(language)
    far = far_file(language, rule, ends)
    shapes = drawn_shapes(language, rule, ends) if far is None else ()
    return Reach(language, rule, far, shapes)
