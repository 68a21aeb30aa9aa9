"""Working values: None (blank), True and False; and what the signs of tests ask."""


def both(one, other):
    """The `&` of two working values."""
    if one is None or other is None:
        return other if one is None else one
    return one and other


def either(one, other):
    """The `|` of two working values."""
    if one is None or other is None:
        return other if one is None else one
    return one or other


def inverse(one):
    """The `~` of a working value."""
    return None if one is None else not one


def holds(sign, worth, wanted):
    """Whether a value in a column is what a sign asks for; a row of items is wanted by `in`."""
    if sign == "is":
        return worth == wanted
    if sign == "below":
        return worth < wanted
    if sign == "least":
        return worth >= wanted
    return worth in wanted
