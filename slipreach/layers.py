"""Layers: how the files of several layers are joined to one dict of settings."""

from slipreach.errors import BadLayer, BadLayers, EmptyList, Lacking, TopLacking
from slipreach.tokens import is_integer

MOST_LAYERS = 3


def check_layers(checks):
    """Raises BadLayers(count) unless there are 1 to 3 layers."""
    if not 1 <= len(checks) <= MOST_LAYERS:
        raise BadLayers(len(checks))


def check_layer(checks, layer):
    """Raises BadLayer(layer) for any object that is no number of a layer."""
    if not is_integer(layer) or not 0 <= layer < len(checks):
        raise BadLayer(layer)


def leaves(schema, seen):
    """Whether a seen leaves every below as it was."""
    if seen in ((), ("lack",)):
        return True
    if seen[1] is None:
        return schema.nothing == "lacks"
    return seen[1] == () and schema.empty == "lacks"


def over(schema, name, below, seen):
    """The below behind one more layer. Raises NoSetting(name)."""
    setting = schema.setting(name)
    if leaves(schema, seen):
        return below
    if seen[1] is None:
        return ()
    if setting.join and below != ():
        return (below[0] + seen[1],)
    return (seen[1],)


def gives(schema, name, seen):
    """Whether a seen gives a value. Raises NoSetting(name)."""
    schema.setting(name)
    return not leaves(schema, seen) and seen[1] is not None


def finished(schema, name, below, top_seen):
    """What the settings have: () or a tuple of one value. Raises NoSetting and those of 4.3."""
    setting = schema.setting(name)
    if setting.demand == "top" and not gives(schema, name, top_seen):
        raise TopLacking(name)
    if setting.demand == "some" and below == ():
        raise Lacking(name)
    if setting.filled and below == ((),):
        raise EmptyList(name)
    if below == () and setting.default is not None:
        return (setting.default,)
    return below


def layer_seen(check, name):
    """The seen of one layer, which may have no file."""
    return () if check is None else check.given(name)


def seen_at(checks, layer, name):
    """The seen of a layer. Raises BadLayers, BadLayer, and NoSetting where there is a file."""
    check_layers(checks)
    check_layer(checks, layer)
    return layer_seen(checks[layer], name)


def seens_of(checks, name):
    """The seens of all layers, a list."""
    return [layer_seen(check, name) for check in checks]


def below_of(schema, name, seens):
    """The below behind the last one of some seens."""
    below = ()
    for seen in seens:
        below = over(schema, name, below, seen)
    return below


def value_of_seens(schema, name, seens):
    """What `finished` returns or raises for the seens of all layers."""
    return finished(schema, name, below_of(schema, name, seens), seens[-1])


def outcome_of_seens(schema, name, seens):
    """The outcome of a name that has these seens in all layers."""
    try:
        value = value_of_seens(schema, name, seens)
    except TopLacking:
        return ("top lacking",)
    except Lacking:
        return ("lacking",)
    except EmptyList:
        return ("empty list",)
    return ("absent",) if value == () else ("value", value[0])


def named_seens(schema, checks, name):
    """The seens of all layers for a name. Raises BadLayers, NoSetting."""
    check_layers(checks)
    schema.setting(name)
    return seens_of(checks, name)


def below_top(schema, checks, name):
    """The below behind the top layer. Raises BadLayers, NoSetting."""
    return below_of(schema, name, named_seens(schema, checks, name))


def outcome(schema, checks, name):
    """The outcome of a name. Raises BadLayers, NoSetting."""
    return outcome_of_seens(schema, name, named_seens(schema, checks, name))


def joined(schema, checks):
    """The settings, a dict in the order of the schema. Raises BadLayers and those of 4.3."""
    check_layers(checks)
    settings = {}
    for name in schema.names:
        value = value_of_seens(schema, name, seens_of(checks, name))
        if value != ():
            settings[name] = value[0]
    return settings


def is_changed(name, first, second):
    """Whether only one of two dicts of settings has a name, or both have unlike values."""
    if name in first and name in second:
        return first[name] != second[name]
    return name in first or name in second


def changed_names(schema, checks, others):
    """The names, in the order of the schema, whose values differ. Raises as joined."""
    first = joined(schema, checks)
    second = joined(schema, others)
    return [name for name in schema.names if is_changed(name, first, second)]
