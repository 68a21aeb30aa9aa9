"""Values, and the settings that they fit."""

from slipreach.errors import BadSetting
from slipreach.tokens import is_integer, is_list_value, is_number, is_one_of, is_word

KINDS = ("choice", "word", "number", "list")
DEMANDS = ("no", "some", "top")
MOST_WORDS = 4
MOST_ELDERS = 2
MOST_ITEMS = 8
DEFAULT_NUMBERS = 10 ** 9


def is_value(thing):
    """Whether any object is a value."""
    return thing is None or is_word(thing) or is_number(thing) or is_list_value(thing)


def are_words(things, most):
    """Whether any object is a tuple or list of at most so many different words."""
    if not isinstance(things, (tuple, list)) or len(things) > most:
        return False
    return all([is_word(thing) for thing in things]) and len(set(things)) == len(things)


def fits_kind(kind, words, value):
    """Whether any object is a value, not None, that a kind of setting takes."""
    if kind == "choice":
        return is_one_of(value, words)
    if kind == "word":
        return is_word(value)
    if kind == "number":
        return is_number(value)
    return is_list_value(value)


def is_small(value):
    """Whether a value that fits is small and plain enough for a default."""
    if is_integer(value):
        return value < DEFAULT_NUMBERS
    if isinstance(value, tuple):
        return len(value) <= MOST_ITEMS and all([is_word(item) for item in value])
    return True


class Setting:
    """One setting of a schema."""

    def __init__(self, name, kind, *, words=(), default=None, elders=(), join=False,
                 demand="no", filled=False):
        self.name = name
        self.kind = kind
        self.words = words
        self.default = default
        self.elders = elders
        self.join = join
        self.demand = demand
        self.filled = filled
        if not is_sound(self):
            raise BadSetting(name)
        self.words = tuple(words)
        self.elders = tuple(elders)

    def __eq__(self, other):
        return (isinstance(other, Setting) and self.name == other.name and self.kind == other.kind
                and self.words == other.words and self.default == other.default
                and self.elders == other.elders and self.join == other.join
                and self.demand == other.demand and self.filled == other.filled)

    def fits(self, value):
        """Whether any object is a value that the setting takes."""
        return value is None or fits_kind(self.kind, self.words, value)

    def calls(self, word):
        """Whether a word is the name or an elder name."""
        return isinstance(word, str) and (word == self.name or word in self.elders)

    def changed(self, **more):
        """A setting with some of its parts replaced. Raises BadSetting(name)."""
        parts = {"name": self.name, "kind": self.kind, "words": self.words, "default": self.default,
                 "elders": self.elders, "join": self.join, "demand": self.demand, "filled": self.filled}
        parts.update(more)
        return Setting(**parts)


def has_sound_words(setting):
    """Whether the words of a setting are as its kind asks."""
    if not are_words(setting.words, MOST_WORDS):
        return False
    return (len(setting.words) > 0) == (setting.kind == "choice")


def has_sound_default(setting):
    """Whether a setting has no default, or one that fits and is not demanded."""
    if setting.default is None:
        return True
    if setting.demand != "no":
        return False
    return fits_kind(setting.kind, setting.words, setting.default) and is_small(setting.default)


def has_sound_switches(setting):
    """Whether join and filled are True for lists alone."""
    for switch in (setting.join, setting.filled):
        if not (switch is False or (switch is True and setting.kind == "list")):
            return False
    return True


def is_sound(setting):
    """Whether all parts of a setting are as they should be."""
    if not is_word(setting.name) or not is_one_of(setting.kind, KINDS):
        return False
    if not are_words(setting.elders, MOST_ELDERS) or setting.name in setting.elders:
        return False
    if not is_one_of(setting.demand, DEMANDS) or not has_sound_words(setting):
        return False
    return has_sound_default(setting) and has_sound_switches(setting)
