"""Editions: what leads from an elder schema to a later one."""

from slipreach.errors import BadEdition, BadMove
from slipreach.moves import Move, knows, loses_empty, named
from slipreach.schema import all_words
from slipreach.tokens import is_one_of


class Leap(Move):
    """A move straight to a later schema whose origins are told."""

    def __init__(self, later, origins):
        self.later = later
        self.origins = origins

    def applied(self, schema):
        """The later schema."""
        return self.later

    def carried(self, origins):
        """The told origins."""
        return self.origins


def check_new_words(gone, before, after):
    """Raises BadMove(word) for the first new word that was known once and then was not."""
    words = all_words(before)
    for word in all_words(after):
        if word not in words and word in gone:
            raise BadMove(word)


def led_value(value, is_wrapped):
    """A value led to a setting that is wrapped or not."""
    return (value,) if is_wrapped else value


class Edition:
    """The later settings, and where each one comes from."""

    def __init__(self, elder, moves):
        later = elder
        origins = {name: (name, False) for name in elder.names}
        gone = []
        for move in moves:
            following = move.applied(later)
            check_new_words(gone, later, following)
            gone = [*gone, *all_words(later)]
            origins = move.carried(origins)
            later = following
        self.elder = elder
        self.later = later
        self.origins = origins

    @classmethod
    def direct(cls, elder, later):
        """The edition that goes by words alone. Raises BadEdition(name)."""
        if elder.rules() != later.rules():
            raise BadEdition("")
        origins = {setting.name: origin_by_words(elder, setting) for setting in later}
        for setting in later:
            if is_unfounded(elder, setting, origins[setting.name][0]):
                raise BadEdition(setting.name)
        return cls(elder, [Leap(later, origins)])

    def __rshift__(self, other):
        if self.later != other.elder:
            raise BadEdition("")
        origins = {name: put_together(self, other.origins[name]) for name in other.later.names}
        return Edition(self.elder, [Leap(other.later, origins)])

    def __eq__(self, other):
        return (isinstance(other, Edition) and self.elder == other.elder and self.later == other.later
                and self.origins == other.origins)

    def origin_of(self, name):
        """The source of a later name, and whether it is wrapped. Raises BadEdition(name)."""
        if not is_one_of(name, self.later.names):
            raise BadEdition(name)
        return self.origins[name]

    def source(self, name):
        """The source of a later name, or None. Raises BadEdition(name)."""
        return self.origin_of(name)[0]

    def is_wrapped(self, name):
        """Whether a later name is wrapped. Raises BadEdition(name)."""
        return self.origin_of(name)[1]

    def targets(self, name):
        """The later names whose source an elder name is. Raises BadEdition(name)."""
        if not is_one_of(name, self.elder.names):
            raise BadEdition(name)
        return [target for target in self.later.names if self.origins[target][0] == name]

    def moved(self, settings):
        """The later settings that come of elder ones."""
        later = {}
        for setting in self.later:
            source, is_wrapped = self.origins[setting.name]
            if source in settings:
                later[setting.name] = led_value(settings[source], is_wrapped)
            elif setting.default is not None:
                later[setting.name] = setting.default
        return later


def put_together(edition, origin):
    """The origin, in the elder schema of an edition, of what has an origin in the later one."""
    if origin[0] is None:
        return (None, False)
    source, is_wrapped = edition.origins[origin[0]]
    return (source, source is not None and (is_wrapped or origin[1]))


def is_same_setting(setting, elder):
    """Whether a later setting fits an elder one as it is."""
    return (setting.kind == elder.kind and setting.words == elder.words and setting.join == elder.join
            and setting.demand == elder.demand and setting.filled == elder.filled)


def is_wrapping(setting, elder):
    """Whether a later setting fits an elder one if it is wrapped."""
    if elder.kind not in ("choice", "word") or setting.kind != "list":
        return False
    return not setting.join and not setting.filled and setting.demand == elder.demand


def origin_by_words(elder, setting):
    """The origin that the words of a later setting give it."""
    for word in [setting.name, *setting.elders]:
        row = named(elder, elder.called(word))
        if row is not None:
            if is_same_setting(setting, row):
                return (row.name, False)
            if is_wrapping(setting, row):
                return (row.name, True)
    return (None, False)


def is_unfounded(elder, setting, source):
    """Whether settings of the elder schema cannot always be led to a later setting."""
    if source is None:
        return setting.demand != "no"
    return loses_empty(elder, named(elder, source), setting)


def is_reused(edition, word):
    """Whether a word calls a later setting that does not come from the one that it called."""
    if not knows(edition.later, word):
        return False
    return edition.source(edition.later.called(word)) != edition.elder.called(word)


def reused(edition):
    """The words that call another setting later, ascending."""
    return sorted([word for word in all_words(edition.elder) if is_reused(edition, word)])
