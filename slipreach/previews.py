"""Previews: some settings printed, and the silent slips that they show."""

from slipreach.errors import BadPreview
from slipreach.layers import is_changed
from slipreach.leastsets import least_good
from slipreach.playing import parted, slipped, taken, tried
from slipreach.tokens import is_one_of

WIDTH = 12


def value_text(value):
    """A value as a preview prints it; a minus sign for None."""
    if value is None:
        return "-"
    return f"[{', '.join(value)}]" if isinstance(value, tuple) else str(value)


def line_of(plan, name):
    """The line of a name for a plan."""
    return f"{name.ljust(WIDTH)} = {value_text(plan[name])}"


class Preview:
    """Some names of the schema of a house, in its order."""

    def __init__(self, house, *names):
        for name in names:
            if not is_one_of(name, house.schema.names):
                raise BadPreview(name)
        self.house = house
        self.names = tuple([name for name in house.schema.names if name in names])

    def __iter__(self):
        return iter(self.names)

    def __len__(self):
        return len(self.names)

    def __contains__(self, x):
        return x in self.names

    def __eq__(self, other):
        return isinstance(other, Preview) and self.names == other.names

    def __or__(self, other):
        return preview_of(self.house, [*self.names, *other.names])

    def __call__(self, plan):
        """The lines for a plan."""
        return [line_of(plan, name) for name in self.names]

    def changed(self, first, second):
        """The names whose lines differ in two plans."""
        return [name for name in self.names if line_of(first, name) != line_of(second, name)]

    def unseen(self, slips):
        """Those of some silent slips that are not shown."""
        return [one for one in slips if not any([name in one.names for name in self.names])]


def preview_of(house, names):
    """The preview of some names of the schema."""
    return Preview(house, *names)


class SilentSlip:
    """A slip that the house does not hear, and what it changes."""

    def __init__(self, layer, slip, rows, names):
        self.layer = layer
        self.slip = slip
        self.more, self.less = rows
        self.names = names


def silent_in(house, files, plan, layer, slip):
    """The SilentSlip of a slip in files of which the plan is told, in a list, or none."""
    other, _, _ = tried(house, slipped(files, layer, slip))
    if other is None:
        return []
    rows = parted(plan, other)
    if rows == (None, None):
        return []
    before = plan.settings
    after = other.settings
    names = tuple([name for name in house.schema.names if is_changed(name, before, after)])
    return [SilentSlip(layer, slip, rows, names)]


def silent_slips(house, rule, files, *, words=(), numbers=(), goal="any"):
    """All silent slips of files that count for a goal. Raises BadFiles, NotTaken(stage)."""
    plan = taken(house, files)
    found = []
    for layer, file in enumerate(files):
        if file is not None:
            slips = list(rule.slips(file, words=words, numbers=numbers))
            for slip in slips:
                found.extend(silent_in(house, files, plan, layer, slip))
    return [one for one in found if goal == "any" or one.more is not None]


def least_previews(house, rule, files, *, words=(), numbers=(), goal="any"):
    """All previews that show all silent slips, and no names without need. Raises as silent_slips."""
    slips = silent_slips(house, rule, files, words=words, numbers=numbers, goal=goal)
    rows = least_good(house.schema.names, lambda names: not preview_of(house, names).unseen(slips))
    return [preview_of(house, names) for names in rows]
