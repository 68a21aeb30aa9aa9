"""Slips played: what one slip in one file leads to, from the files to the rows."""

from slipreach.cases import number_of
from slipreach.conditions import parting
from slipreach.errors import BadLayer, BadSlip, DoubledName, EmptyList, Lacking, NotTaken, Refused
from slipreach.errors import TopLacking, Unreadable, UnknownName, WrongKind
from slipreach.reader import roles, spans
from slipreach.tokens import is_integer

FATES = ("reader", "schema", "joining", "builder", "same", "more", "less")


class Played:
    """What a slip leads to."""

    def __init__(self, word, heard, rows):
        self.word = word
        self.stage, self.error = heard
        self.more, self.less = rows


def tried(house, files):
    """The Plan of some files, the stage at which the house refuses them, and the error's name."""
    try:
        return house.run(files), None, None
    except Unreadable:
        return None, "reader", "Unreadable"
    except UnknownName:
        return None, "schema", "UnknownName"
    except WrongKind:
        return None, "schema", "WrongKind"
    except DoubledName:
        return None, "schema", "DoubledName"
    except TopLacking:
        return None, "joining", "TopLacking"
    except Lacking:
        return None, "joining", "Lacking"
    except EmptyList:
        return None, "joining", "EmptyList"
    except Refused:
        return None, "builder", "Refused"


def taken(house, files):
    """The Plan of some files. Raises BadFiles, NotTaken(stage)."""
    plan, at, _ = tried(house, files)
    if plan is None:
        raise NotTaken(at)
    return plan


def check_place(house, files, layer, slip):
    """Raises BadLayer(layer), or BadSlip(at) if a slip cannot be done to the file of a layer."""
    if not is_integer(layer) or not 0 <= layer < house.layers:
        raise BadLayer(layer)
    if files[layer] is None or not slip.fits(files[layer]):
        raise BadSlip(slip.at)


def slipped(files, layer, slip):
    """Some files with the slipped one in its place."""
    return [slip(file) if at == layer else file for at, file in enumerate(files)]


def parted(first, second):
    """A row that the second plan's condition takes alone, and one that the first one's does."""
    return parting(first.condition, second.condition)


def played(house, files, layer, slip):
    """What a slip leads to. Raises BadFiles, NotTaken(stage), BadLayer(layer), BadSlip(at)."""
    plan = taken(house, files)
    check_place(house, files, layer, slip)
    other, at, name = tried(house, slipped(files, layer, slip))
    if other is None:
        return Played("heard", (at, name), (None, None))
    rows = parted(plan, other)
    return Played("harmless" if rows == (None, None) else "silent", (None, None), rows)


def fate_beside(house, files, layer, slip, row):
    """The fate of a slip beside a row. Raises as played."""
    plan = taken(house, files)
    check_place(house, files, layer, slip)
    other, at, _ = tried(house, slipped(files, layer, slip))
    if other is None:
        return at
    before = plan.condition.takes(row)
    after = other.condition.takes(row)
    if before == after:
        return "same"
    return "more" if after else "less"


def place_of(house, files, layer, slip):
    """The place (kind, layer, role, name) of a slip. Raises as played."""
    taken(house, files)
    check_place(house, files, layer, slip)
    file = files[layer]
    rows = spans(house.language, file)
    name = house.schema.called(file[rows[number_of(rows, slip.at)][0]])
    return (slip.kind, layer, roles(house.language, file)[slip.at], "" if name is None else name)
