"""Changes: what one layer can still do, and the least entries that bring a value about."""

from slipreach.layers import below_of, check_layer, check_layers, outcome_of_seens, seens_of
from slipreach.lifts import lift_above
from slipreach.schema import met
from slipreach.whys import told_values


def outcome_with(schema, checks, layer, name, seen):
    """The outcome of a name if one layer has another seen."""
    seens = seens_of(checks, name)
    return outcome_of_seens(schema, name, [*seens[:layer], seen, *seens[layer + 1:]])


def check_place(schema, checks, layer, name):
    """Raises BadLayers, NoSetting or BadLayer."""
    check_layers(checks)
    schema.setting(name)
    check_layer(checks, layer)


def is_masked(schema, checks, layer, name):
    """Whether nothing in a layer matters for a name. Raises BadLayers, NoSetting, BadLayer."""
    check_place(schema, checks, layer, name)
    # An entry that lacks does what no entry does, so it need not be tried.
    seens = [(), *[("value", value) for value in told_values(schema.setting(name))]]
    outcomes = [outcome_with(schema, checks, layer, name, seen) for seen in seens]
    return all([outcome == outcomes[0] for outcome in outcomes])


def inner_list(schema, checks, layer, name, wanted):
    """What is left of a wanted list without the lists of the layers below and above."""
    below = below_of(schema, name, seens_of(checks, name)[:layer])
    form = lift_above(schema, checks, layer, name).form
    ahead = len(below[0]) if schema.setting(name).join and below != () else 0
    behind = len(form[1]) if form[0] == "behind" else 0
    return wanted[ahead:len(wanted) - behind]


def rows_for(schema, checks, layer, name, wanted):
    """Rows of values of which the first one that brings a wanted thing about is the least."""
    if wanted == ():
        return [[], [None]]
    value = wanted[0]
    if schema.setting(name).kind == "list":
        value = inner_list(schema, checks, layer, name, value)
    return [[], [None], [value]]


def seen_of(schema, name, values):
    """The seen behind entries with these values."""
    seen = ()
    for value in values:
        seen = met(schema, name, seen, value)
    return seen


def least_entries(schema, checks, layer, name, wanted):
    """The fewest values that bring about () or (v,), or None. Raises as is_masked."""
    check_place(schema, checks, layer, name)
    if wanted != () and (wanted[0] is None or not schema.fits(name, wanted[0])):
        return None
    goal = ("absent",) if wanted == () else ("value", wanted[0])
    for values in rows_for(schema, checks, layer, name, wanted):
        if outcome_with(schema, checks, layer, name, seen_of(schema, name, values)) == goal:
            return values
    return None
