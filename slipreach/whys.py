"""Whys: which entries make up a value, and which ones could change it."""

from slipreach.errors import BadLayer, NoEntry
from slipreach.layers import check_layer, check_layers, layer_seen, leaves, named_seens, outcome_of_seens
from slipreach.layers import over, seens_of, value_of_seens
from slipreach.schema import met
from slipreach.tokens import is_integer


def told_values(setting):
    """Values that tell whether any value of a setting matters, in the order of 4.5."""
    if setting.kind == "choice":
        return [None, *setting.words]
    if setting.kind == "word":
        return [None, "a", "b"]
    if setting.kind == "number":
        return [None, 0, 1]
    return [None, (), ("a",), ("b",)]


def how_of(schema, name, below, check):
    """The word that tells what a layer does to the below of a name."""
    if check is None:
        return "no file"
    seen = check.given(name)
    if seen == ():
        return "unnamed"
    if seen == ("lack",):
        return "lack"
    if leaves(schema, seen):
        return "nothing" if seen[1] is None else "empty"
    if seen[1] is None:
        return "cleared"
    return "behind" if schema.setting(name).join and below != () else "alone"


def trail_of(schema, checks, name):
    """What each layer does to a name, and the below behind it: a list."""
    rows = []
    below = ()
    for check in checks:
        how = how_of(schema, name, below, check)
        below = over(schema, name, below, layer_seen(check, name))
        rows.append((how, below))
    return rows


def trail(schema, checks, name):
    """For each layer a tuple (how, below). Raises BadLayers, NoSetting."""
    check_layers(checks)
    schema.setting(name)
    return trail_of(schema, checks, name)


def value_layers(rows):
    """The numbers of the layers that make up the value behind a trail."""
    layers = []
    for layer, (how, _) in enumerate(rows):
        if how == "behind":
            layers = [*layers, layer]
        elif how == "alone":
            # Whatever stood there before, cleared or not, is gone.
            layers = [layer]
    return layers


def why(schema, checks, name):
    """Where the value of a name comes from. Raises BadLayers, NoSetting and those of 4.3."""
    value = value_of_seens(schema, name, named_seens(schema, checks, name))
    if value == ():
        return ("none",)
    rows = trail_of(schema, checks, name)
    if rows[-1][1] == ():
        return ("default",)
    layers = value_layers(rows)
    return ("given", tuple([(layer, entry) for layer in layers for entry in checks[layer].sources(name)]))


def seen_with(check, name, entry, value):
    """The seen of a name in a file that has another value, which fits, in one entry."""
    seen = ()
    for number in check.entries_of(name):
        worth = value if number == entry else check.entries[number][1]
        seen = met(check.schema, name, seen, worth, entry=number)
    return seen


def first_telling(schema, checks, layer, entry, name):
    """The telling value of an entry of a name in a tuple, or None."""
    seens = seens_of(checks, name)
    present = outcome_of_seens(schema, name, seens)
    for value in told_values(schema.setting(name)):
        seen = seen_with(checks[layer], name, entry, value)
        if outcome_of_seens(schema, name, [*seens[:layer], seen, *seens[layer + 1:]]) != present:
            return (value,)
    return None


def telling_value(schema, checks, layer, entry):
    """The telling value of an entry in a tuple, or None. Raises BadLayers, BadLayer, NoEntry."""
    check_layers(checks)
    check_layer(checks, layer)
    check = checks[layer]
    if check is None:
        raise BadLayer(layer)
    if not is_integer(entry) or not 0 <= entry < len(check):
        raise NoEntry(entry)
    name = schema.called(check.entries[entry][0])
    if name is None:
        raise NoEntry(entry)
    return first_telling(schema, checks, layer, entry, name)


def carriers(schema, checks, name):
    """The addresses of all entries that carry a name. Raises BadLayers, NoSetting."""
    check_layers(checks)
    schema.setting(name)
    found = []
    for layer, check in enumerate(checks):
        entries = () if check is None else check.entries_of(name)
        for entry in entries:
            # Wherever any value changes the outcome, one of the told ones does.
            if first_telling(schema, checks, layer, entry, name) is not None:
                found.append((layer, entry))
    return tuple(found)
