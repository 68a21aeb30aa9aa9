"""Witnesses: small files of a schema, one for each thing that its settings can have.

A row is a list of entries of the top layer; the layers below it have no files.
"""

from slipreach.checking import checked
from slipreach.errors import SettingsError
from slipreach.layers import joined
from slipreach.whys import told_values
from slipreach.writer import plain


def files_of(language, layers, row):
    """The files with a row of entries in the top layer."""
    return [*[None for _ in range(layers - 1)], plain(language, row)]


def settings_of(schema, row):
    """The settings that a row of entries gives, or None if the schema refuses it."""
    try:
        return joined(schema, [checked(schema, row)])
    except SettingsError:
        return None


def given_value(setting):
    """A value that every rule takes as one that is given."""
    return ("a",) if setting.kind == "list" else told_values(setting)[1]


def base_row(schema, names):
    """Entries that meet the demands of all settings but those of some names."""
    return [(setting.name, given_value(setting)) for setting in schema
            if setting.demand != "no" and setting.name not in names]


def short_rows(schema, name, values):
    """Rows of no or one entry of a name that the schema takes beside the base row.

    If the setting can have several values at all, these rows show at least two of them, and
    they show all values of a choice.
    """
    setting = schema.setting(name)
    wanted = [*told_values(setting)[1:], *[value for value in values if setting.fits(value)]]
    rows = [[], *[[(name, value)] for value in wanted if value is not None]]
    base = base_row(schema, [name])
    return [row for row in rows if settings_of(schema, [*base, *row]) is not None]


def paired_rows(schema, one, other):
    """Whole rows that try two names, perhaps the same one, with short rows of each."""
    base = base_row(schema, [one, other])
    if one == other:
        return [[*base, *row] for row in short_rows(schema, one, [])]
    return [[*base, *first, *second] for first in short_rows(schema, one, [])
            for second in short_rows(schema, other, [])]
