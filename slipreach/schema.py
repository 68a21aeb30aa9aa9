"""Schemas: the settings that there are, and the rules by which files are checked."""

from slipreach.errors import BadSchema, DoubledName, NoSetting, WrongKind
from slipreach.kinds import Setting
from slipreach.tokens import is_one_of

MOST_SETTINGS = 4

RULES = {
    "unknown": ("refuse", "pass"),
    "doubled": ("refuse", "first", "last", "join"),
    "wrong": ("refuse", "lack"),
    "nothing": ("clears", "lacks"),
    "empty": ("given", "lacks"),
}


def are_settings(things):
    """Whether some objects are 1 to 4 settings."""
    if not 1 <= len(things) <= MOST_SETTINGS:
        return False
    return all([isinstance(thing, Setting) for thing in things])


def all_words(settings):
    """All names and elder names of some settings."""
    return [word for setting in settings for word in [setting.name, *setting.elders]]


class Schema:
    """Some settings in order, and five rules."""

    def __init__(self, settings, *, unknown="refuse", doubled="refuse", wrong="refuse",
                 nothing="clears", empty="given"):
        if not are_settings(settings):
            raise BadSchema("settings")
        words = all_words(settings)
        if len(set(words)) < len(words):
            raise BadSchema("names")
        given = {"unknown": unknown, "doubled": doubled, "wrong": wrong,
                 "nothing": nothing, "empty": empty}
        for rule in RULES:
            if not is_one_of(given[rule], RULES[rule]):
                raise BadSchema(rule)
        self.rows = tuple(settings)
        self.names = tuple([setting.name for setting in settings])
        self.unknown = unknown
        self.doubled = doubled
        self.wrong = wrong
        self.nothing = nothing
        self.empty = empty

    def __iter__(self):
        return iter(self.rows)

    def __len__(self):
        return len(self.rows)

    def __eq__(self, other):
        return (isinstance(other, Schema) and self.rows == other.rows
                and self.unknown == other.unknown and self.doubled == other.doubled
                and self.wrong == other.wrong and self.nothing == other.nothing
                and self.empty == other.empty)

    def called(self, word):
        """The name of the setting that any object calls, or None."""
        for setting in self.rows:
            if setting.calls(word):
                return setting.name
        return None

    def setting(self, name):
        """The setting of a name. Raises NoSetting(name)."""
        if not is_one_of(name, self.names):
            raise NoSetting(name)
        return self.rows[self.names.index(name)]

    def fits(self, name, value):
        """Whether any object is a value for the setting of a name. Raises NoSetting(name)."""
        return self.setting(name).fits(value)

    def rules(self):
        """A new dict of the five rules."""
        return {"unknown": self.unknown, "doubled": self.doubled, "wrong": self.wrong,
                "nothing": self.nothing, "empty": self.empty}

    def with_setting(self, setting):
        """A schema with a setting in the place of that of its name. Raises NoSetting, BadSchema."""
        self.setting(setting.name)
        settings = [setting if row.name == setting.name else row for row in self.rows]
        rules = self.rules()
        return Schema(settings, **rules)

    def with_rules(self, **more):
        """A schema with other rules. Raises BadSchema(what)."""
        for rule in more:
            if rule not in RULES:
                raise BadSchema(rule)
        rules = self.rules()
        rules.update(more)
        settings = self.rows
        return Schema(settings, **rules)


def joined_seen(seen, now):
    """The next seen of a list by the rule "join", behind an entry."""
    if now == ("lack",):
        return seen
    if now[1] is None or seen == ("lack",) or seen[1] is None:
        return now
    return ("value", seen[1] + now[1])


def met(schema, name, seen, value, *, entry=0):
    """The seen behind one more entry. Raises NoSetting, WrongKind or DoubledName."""
    setting = schema.setting(name)
    now = ("value", value)
    if not setting.fits(value):
        if schema.wrong == "refuse":
            raise WrongKind(entry, name)
        now = ("lack",)
    if seen == ():
        return now
    if schema.doubled == "refuse":
        raise DoubledName(entry, name)
    if schema.doubled == "first":
        return seen
    if schema.doubled == "join" and setting.kind == "list":
        return joined_seen(seen, now)
    return now
