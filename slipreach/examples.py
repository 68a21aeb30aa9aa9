"""Examples that are said to show the fate of a slip, and their faults."""

from slipreach.playing import check_place, fate_beside, place_of, tried
from slipreach.errors import BadLayer, BadSlip


def is_taken(house, files):
    """Whether there is one file, or None, for each layer, and the house takes them."""
    return len(files) == house.layers and tried(house, files)[0] is not None


def is_allowed_slip(house, rule, files, layer, slip):
    """Whether a slip can be done to the file of a layer, and the rule allows it there."""
    try:
        check_place(house, files, layer, slip)
    except BadLayer:
        return False
    except BadSlip:
        return False
    return rule.allows(files[layer], slip)


def example_fault(house, rule, place, fate, example):
    """The first of "files", "slip", "place" and "fate" in which an example fails, or None."""
    files, layer, slip = example.files, example.layer, example.slip
    if not is_taken(house, files):
        return "files"
    if not is_allowed_slip(house, rule, files, layer, slip):
        return "slip"
    if place_of(house, files, layer, slip) != place:
        return "place"
    if fate_beside(house, files, layer, slip, example.row) != fate:
        return "fate"
    return None
