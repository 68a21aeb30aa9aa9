"""Lifts: what one layer, or several layers above one another, do to a below."""

from slipreach.layers import check_layer, check_layers, layer_seen, leaves


def lifted(form, below):
    """The below that comes of a below by a lift of this form."""
    if form == ("same",):
        return below
    if form[0] == "always":
        return form[1]
    return (form[1],) if below == () else (below[0] + form[1],)


def added_form(first, second):
    """The form of the sum of two lifts."""
    if second == ("same",):
        return first
    if second[0] == "always" or first == ("same",):
        return second
    if first[0] == "always":
        return ("always", lifted(second, first[1]))
    return ("behind", first[1] + second[1])


class Lift:
    """What layers do to a below."""

    def __init__(self, form):
        self.form = form

    @classmethod
    def of_seen(cls, schema, name, seen):
        """The lift of the seen of one layer. Raises NoSetting(name)."""
        setting = schema.setting(name)
        if leaves(schema, seen):
            return cls(("same",))
        if seen[1] is None:
            return cls(("always", ()))
        if setting.join:
            return cls(("behind", seen[1]))
        return cls(("always", (seen[1],)))

    def __call__(self, below):
        """The below that comes of a below."""
        return lifted(self.form, below)

    def __add__(self, other):
        return Lift(added_form(self.form, other.form))

    def __eq__(self, other):
        return isinstance(other, Lift) and self.form == other.form


def lift_above(schema, checks, layer, name):
    """The sum of the lifts above a layer. Raises BadLayers, NoSetting, BadLayer."""
    check_layers(checks)
    schema.setting(name)
    check_layer(checks, layer)
    total = Lift(("same",))
    for check in checks[layer + 1:]:
        total = total + Lift.of_seen(schema, name, layer_seen(check, name))
    return total
