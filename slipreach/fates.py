"""Fates: all that slips of a rule can lead to in any files, and files of least weight that show it."""

from slipreach.errors import BadGoal, FarReach
from slipreach.house import copied_files
from slipreach.playing import FATES
from slipreach.reach import reach
from slipreach.showings import shown_files
from slipreach.slips import KINDS
from slipreach.survey import Survey

ROLES = ("name", "equals", "word", "number", "open", "item", "comma", "close", "end")
GOALS = {"any": ("more", "less"), "more": ("more",)}


class Example:
    """Files with a slip that has a fate beside a row."""

    def __init__(self, files, layer, slip, row):
        self.files = copied_files(files)
        self.layer = layer
        self.slip = slip
        self.row = dict(row)


def place_rank(house, place):
    """A tuple by which places are ordered."""
    kind, layer, role, name = place
    names = [*house.schema.names, ""]
    return (KINDS.index(kind), layer, ROLES.index(role), names.index(name))


def is_goal(thing):
    """Whether any object is one of the goals."""
    return isinstance(thing, str) and thing in GOALS


def example_of(survey, rule, place, fate):
    """The Example of a place and a fate that a survey has found."""
    find = survey.found[(place, fate)]
    files, slip = shown_files(survey.house, rule, find.showing())
    return Example(files, find.layer, slip, find.sight.row)


class Fates:
    """The places of all slips of a rule in all files that a house takes, and their fates."""

    def __init__(self, house, rule, survey):
        self.house = house
        self.rule = rule
        self.survey = survey
        found = list({place: True for place, _ in survey.found})
        self.order = sorted(found, key=lambda place: place_rank(house, place))

    def places(self):
        """All places, in order."""
        return list(self.order)

    def of(self, place):
        """The fates at a place, in order; none at a place that is not listed."""
        return tuple([fate for fate in FATES if (place, fate) in self.survey.found])

    def example(self, place, fate):
        """An Example of least weight, or None if the place does not have the fate."""
        return example_of(self.survey, self.rule, place, fate) if (place, fate) in self.survey.found else None

    def silent(self, goal):
        """The places with a silent fate that counts for a goal. Raises BadGoal(goal)."""
        if not is_goal(goal):
            raise BadGoal(goal)
        return [place for place in self.order if any([fate in GOALS[goal] for fate in self.of(place)])]

    def page(self):
        """One line for each place."""
        return [page_line(place, self.of(place)) for place in self.order]


def page_line(place, found):
    """The line of a place with some fates."""
    kind, layer, role, name = place
    return f"{kind:<8}{layer:<2}{role:<8}{name:<13}{', '.join(found)}"


def survey_of(house, rule):
    """A survey in which nothing is found yet. Raises FarReach(file, slip), then TooManyConducts(60)."""
    found = reach(house.language, rule)
    if found.word == "far":
        raise FarReach(found.file, found.slip)
    return Survey(house, rule, found.shapes)


def fates(house, rule):
    """The Fates of a house and a rule. Raises FarReach(file, slip), then TooManyConducts(60)."""
    survey = survey_of(house, rule)
    survey.look_all()
    return Fates(house, rule, survey)


def silent_example(house, rule, goal):
    """An Example of a silent fate that counts for a goal, or None. Raises BadGoal, and as fates."""
    if not is_goal(goal):
        raise BadGoal(goal)
    survey = survey_of(house, rule)
    survey.look_for(GOALS[goal])
    for place, fate in survey.found:
        if fate in GOALS[goal]:
            return example_of(survey, rule, place, fate)
    return None
