"""Languages: the options, and the states through which a reading goes."""

from slipreach.errors import BadLanguage
from slipreach.tokens import SORTS, is_one_of

STATES = ("start", "name", "equals", "open", "item", "pair", "comma", "done", "ended")

DOUBLED = ("=", ";", ",")

OPTIONS = ("equals", "end", "comma", "last", "doubled", "bare", "nothing")

CHOICES = {
    "equals": ("must", "may"),
    "end": ("must", "between", "may"),
    "comma": ("must", "may", "joins"),
    "last": ("never", "may", "must"),
}


def is_doubled_option(thing):
    """Whether any object is a row of different signs that may be doubled."""
    if not isinstance(thing, (tuple, list)):
        return False
    if not all([is_one_of(sign, DOUBLED) for sign in thing]):
        return False
    return len(set(thing)) == len(thing)


def is_allowed(option, thing):
    """Whether any object is an allowed value of an option."""
    if option in CHOICES:
        return is_one_of(thing, CHOICES[option])
    if option == "doubled":
        return is_doubled_option(thing)
    return thing is True or thing is False


def doubling(language, sign, state):
    """How a doubled sign goes on: it stays in its state."""
    return {sign: state} if sign in language.doubled else {}


def ways_from_name(language):
    """Where each sort leads from the state name."""
    ways = {"=": "equals"}
    if language.equals == "may":
        ways.update({"word": "done", "number": "done", "[": "open"})
    elif language.bare and language.end == "may":
        ways["word"] = "name"
    if language.bare:
        ways[";"] = "ended"
    return ways


def ways_from_equals(language):
    """Where each sort leads from the state equals."""
    ways = {"word": "done", "number": "done", "[": "open"}
    ways.update(doubling(language, "=", "equals"))
    if language.nothing:
        ways[";"] = "ended"
    return ways


def ways_behind_item(language):
    """Where the signs lead from the states item and pair."""
    ways = {",": "comma"}
    if language.last != "must":
        ways["]"] = "done"
    return ways


def ways_from_item(language):
    """Where each sort leads from the state item."""
    ways = ways_behind_item(language)
    if language.comma == "may":
        ways["word"] = "item"
    elif language.comma == "joins":
        ways["word"] = "pair"
    return ways


def ways_from_comma(language):
    """Where each sort leads from the state comma."""
    ways = {"word": "item"}
    ways.update(doubling(language, ",", "comma"))
    if language.last != "never":
        ways["]"] = "done"
    return ways


def ways_from_done(language):
    """Where each sort leads from the state done."""
    ways = {";": "ended"}
    if language.end == "may":
        ways["word"] = "name"
    return ways


def ways_from_ended(language):
    """Where each sort leads from the state ended."""
    ways = {"word": "name"}
    ways.update(doubling(language, ";", "ended"))
    return ways


def all_ways(language):
    """A dict from each state to a dict from the sorts that go on to the next state."""
    return {
        "start": {"word": "name"},
        "name": ways_from_name(language),
        "equals": ways_from_equals(language),
        "open": {"word": "item", "]": "done"},
        "item": ways_from_item(language),
        "pair": ways_behind_item(language),
        "comma": ways_from_comma(language),
        "done": ways_from_done(language),
        "ended": ways_from_ended(language),
    }


class Language:
    """How a settings file is written."""

    def __init__(self, *, equals="must", end="must", comma="must", last="never",
                 doubled=(), bare=False, nothing=False):
        given = {"equals": equals, "end": end, "comma": comma, "last": last,
                 "doubled": doubled, "bare": bare, "nothing": nothing}
        for option in OPTIONS:
            if not is_allowed(option, given[option]):
                raise BadLanguage(option)
        self.equals = equals
        self.end = end
        self.comma = comma
        self.last = last
        self.doubled = tuple([sign for sign in DOUBLED if sign in doubled])
        self.bare = bare
        self.nothing = nothing
        self.ways = all_ways(self)

    def __eq__(self, other):
        return (isinstance(other, Language) and self.equals == other.equals
                and self.end == other.end and self.comma == other.comma
                and self.last == other.last and self.doubled == other.doubled
                and self.bare == other.bare and self.nothing == other.nothing)

    def with_options(self, **more):
        """A language with some options replaced. Raises BadLanguage(option)."""
        for option in more:
            if option not in OPTIONS:
                raise BadLanguage(option)
        options = {"equals": self.equals, "end": self.end, "comma": self.comma, "last": self.last,
                   "doubled": self.doubled, "bare": self.bare, "nothing": self.nothing}
        options.update(more)
        return Language(**options)

    def step(self, state, sort):
        """The state to which a sort leads from a state, or None."""
        if state not in self.ways:
            return None
        return self.ways[state].get(sort)

    def closes(self, state):
        """Whether a file may end in a state."""
        if state in ("start", "ended"):
            return True
        if self.end == "must":
            return False
        if state == "done":
            return True
        return (state == "name" and self.bare) or (state == "equals" and self.nothing)

    def begins(self, state):
        """Whether a word begins an entry from a state."""
        return self.step(state, "word") == "name"

    def next_sorts(self, state):
        """The sorts that go on from a state, and "end" if a file may end there."""
        sorts = [sort for sort in SORTS if self.step(state, sort) is not None]
        if self.closes(state):
            sorts.append("end")
        return tuple(sorts)
