"""Runs: rows of entries of one setting, and what comes of a seen by them."""

from slipreach.errors import BadSchema, DoubledName, WrongKind
from slipreach.schema import met

FAULTS = (("wrong",), ("doubled",))


def come_of(schema, name, seen, value):
    """What comes of a seen by one entry."""
    try:
        return met(schema, name, seen, value)
    except WrongKind:
        return ("wrong",)
    except DoubledName:
        return ("doubled",)


def is_behind(form):
    """Whether a form puts items behind a list."""
    return form[0] == "behind"


def value_form(schema, name, value):
    """What one entry does with values that are there and not None."""
    setting = schema.setting(name)
    if not setting.fits(value) and schema.wrong == "refuse":
        return ("always", ("wrong",))
    if schema.doubled == "refuse":
        return ("always", ("doubled",))
    if schema.doubled == "first":
        return ("same",)
    if schema.doubled == "join" and setting.kind == "list":
        if not setting.fits(value) or value == ():
            return ("same",)
        return ("always", ("value", None)) if value is None else ("behind", value)
    return ("always", ("value", value) if setting.fits(value) else ("lack",))


def forms_of(schema, name, value):
    """The forms of the run of one entry."""
    seens = ((), ("lack",), ("value", None))
    firsts = [come_of(schema, name, seen, value) for seen in seens]
    return (*firsts, value_form(schema, name, value))


def applied(forms, seen):
    """What comes of a seen, or of a fault, by a run with these forms."""
    if seen in FAULTS:
        return seen
    if seen == ():
        return forms[0]
    if seen == ("lack",):
        return forms[1]
    if seen == ("value", None):
        return forms[2]
    if forms[3] == ("same",):
        return seen
    return ("value", seen[1] + forms[3][1]) if is_behind(forms[3]) else forms[3][1]


def added_value_form(first, second):
    """What two runs, one behind the other, do with values that are there and not None."""
    last = second[3]
    if first[3][0] == "always":
        return ("always", applied(second, first[3][1]))
    if is_behind(first[3]) and last == ("same",):
        return first[3]
    if is_behind(first[3]) and is_behind(last):
        return ("behind", first[3][1] + last[1])
    return last


def added_forms(first, second):
    """The forms of the sum of two runs."""
    firsts = [applied(second, come) for come in first[:3]]
    return (*firsts, added_value_form(first, second))


class Run:
    """What a row of entries of one setting does to a seen."""

    def __init__(self, schema, name, forms):
        self.schema = schema
        self.name = name
        self.forms = forms

    @classmethod
    def over_values(cls, schema, name, values):
        """The run of entries with these values. Raises NoSetting(name)."""
        schema.setting(name)
        forms = ((), ("lack",), ("value", None), ("same",))
        for value in values:
            forms = added_forms(forms, forms_of(schema, name, value))
        return cls(schema, name, forms)

    def __call__(self, seen):
        """What comes of a seen or of a fault."""
        return applied(self.forms, seen)

    def __add__(self, other):
        if self.schema != other.schema or self.name != other.name:
            raise BadSchema("run")
        return Run(self.schema, self.name, added_forms(self.forms, other.forms))

    def __eq__(self, other):
        return (isinstance(other, Run) and self.schema == other.schema
                and self.name == other.name and self.forms == other.forms)
