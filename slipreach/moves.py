"""Moves: single changes that make a later schema out of a schema.

Each move also leads origins on: a dict from each name of a schema to a tuple of its source and
whether it is wrapped.
"""

from slipreach.errors import BadMove, BadSetting
from slipreach.kinds import MOST_ELDERS
from slipreach.schema import MOST_SETTINGS, Schema
from slipreach.tokens import is_one_of, is_word


def named(schema, thing):
    """The setting whose name any object is, or None."""
    found = [row for row in schema if is_one_of(thing, [row.name])]
    return found[0] if found else None


def knows(schema, word):
    """Whether a word calls a setting of a schema."""
    return schema.called(word) is not None


def with_settings(schema, settings):
    """A schema of other settings with the same rules."""
    rules = schema.rules()
    return Schema(settings, **rules)


def with_changed(schema, name, setting):
    """A schema in which a setting, perhaps of another name, stands for that of a name."""
    return with_settings(schema, [setting if row.name == name else row for row in schema])


def loses_empty(schema, old, new):
    """Whether an empty list as the default of one setting cannot be written down for another one."""
    if old.default != () or new.default == ():
        return False
    return new.filled or schema.empty == "lacks"


class Move:
    """The base of all moves."""


class Rename(Move):
    """A setting gets another name."""

    def __init__(self, old, new, *, kept=True):
        self.old = old
        self.new = new
        self.kept = kept

    def __eq__(self, other):
        return (isinstance(other, Rename) and self.old == other.old and self.new == other.new
                and self.kept == other.kept)

    def applied(self, schema):
        """The later schema. Raises BadMove(name)."""
        setting = named(schema, self.old)
        if setting is None:
            raise BadMove(self.old)
        if not is_word(self.new) or knows(schema, self.new):
            raise BadMove(self.new)
        elders = setting.elders
        if self.kept:
            if len(elders) == MOST_ELDERS:
                raise BadMove(self.old)
            elders = (self.old, *elders)
        return with_changed(schema, self.old, setting.changed(name=self.new, elders=elders))

    def carried(self, origins):
        """The origins behind the move."""
        return {self.new if name == self.old else name: origins[name] for name in origins}


class Drop(Move):
    """A setting falls."""

    def __init__(self, name):
        self.name = name

    def __eq__(self, other):
        return isinstance(other, Drop) and self.name == other.name

    def applied(self, schema):
        """The later schema. Raises BadMove(name)."""
        if named(schema, self.name) is None or len(schema) == 1:
            raise BadMove(self.name)
        return with_settings(schema, [row for row in schema if row.name != self.name])

    def carried(self, origins):
        """The origins behind the move."""
        return {name: origins[name] for name in origins if name != self.name}


class Add(Move):
    """A setting becomes the last one."""

    def __init__(self, setting):
        self.setting = setting

    def __eq__(self, other):
        return isinstance(other, Add) and self.setting == other.setting

    def applied(self, schema):
        """The later schema. Raises BadMove(name)."""
        setting = self.setting
        if len(schema) == MOST_SETTINGS or setting.demand != "no":
            raise BadMove(setting.name)
        if any([knows(schema, word) for word in [setting.name, *setting.elders]]):
            raise BadMove(setting.name)
        return with_settings(schema, [*schema, setting])

    def carried(self, origins):
        """The origins behind the move."""
        return {**origins, self.setting.name: (None, False)}


class Preset(Move):
    """A setting gets another default, or none."""

    def __init__(self, name, default):
        self.name = name
        self.default = default

    def __eq__(self, other):
        return isinstance(other, Preset) and self.name == other.name and self.default == other.default

    def applied(self, schema):
        """The later schema. Raises BadMove(name)."""
        setting = named(schema, self.name)
        if setting is None:
            raise BadMove(self.name)
        try:
            later = setting.changed(default=self.default)
        except BadSetting:
            raise BadMove(self.name) from None
        if setting.demand != "no" or loses_empty(schema, setting, later):
            raise BadMove(self.name)
        return with_changed(schema, self.name, later)

    def carried(self, origins):
        """The origins behind the move."""
        return {name: origins[name] for name in origins}


class Wrap(Move):
    """A setting of one word becomes a list."""

    def __init__(self, name):
        self.name = name

    def __eq__(self, other):
        return isinstance(other, Wrap) and self.name == other.name

    def applied(self, schema):
        """The later schema. Raises BadMove(name)."""
        setting = named(schema, self.name)
        if setting is None or setting.kind not in ("choice", "word"):
            raise BadMove(self.name)
        default = None if setting.default is None else (setting.default,)
        return with_changed(schema, self.name, setting.changed(kind="list", words=(), default=default))

    def carried(self, origins):
        """The origins behind the move."""
        source = origins[self.name][0]
        return {name: (source, source is not None) if name == self.name else origins[name] for name in origins}


class Split(Move):
    """A setting is repeated under another name, as the last one."""

    def __init__(self, name, other):
        self.name = name
        self.other = other

    def __eq__(self, other):
        return isinstance(other, Split) and self.name == other.name and self.other == other.other

    def applied(self, schema):
        """The later schema. Raises BadMove(name)."""
        setting = named(schema, self.name)
        if setting is None or len(schema) == MOST_SETTINGS:
            raise BadMove(self.name)
        if not is_word(self.other) or knows(schema, self.other):
            raise BadMove(self.other)
        return with_settings(schema, [*schema, setting.changed(name=self.other, elders=())])

    def carried(self, origins):
        """The origins behind the move."""
        return {**origins, self.other: origins[self.name]}
