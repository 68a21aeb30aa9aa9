"""Checked files: what the entries of one file say of each setting."""

from slipreach.errors import DoubledName, NoEntry, UnknownName, WrongKind
from slipreach.schema import met
from slipreach.tokens import is_integer


def next_sources(schema, name, seen, sources, entry, value):
    """The entries that make up the value of a setting, behind one more entry that is no error."""
    setting = schema.setting(name)
    if seen != () and schema.doubled == "first":
        return sources
    if schema.doubled != "join" or setting.kind != "list":
        return (entry,) if setting.fits(value) else ()
    if not setting.fits(value):
        return sources
    is_behind = value is not None and seen not in ((), ("lack",), ("value", None))
    return (*sources, entry) if is_behind else (entry,)


class Standing:
    """What the entries say of each setting up to some point."""

    def __init__(self, schema):
        self.schema = schema
        self.seens = {name: () for name in schema.names}
        self.source_rows = {name: () for name in schema.names}
        self.entry_rows = {name: () for name in schema.names}

    def meet(self, number, entry):
        """Goes on by one entry. Raises UnknownName, WrongKind or DoubledName, and stays then."""
        word, value = entry
        name = self.schema.called(word)
        if name is None:
            if self.schema.unknown == "refuse":
                raise UnknownName(number, word)
            return
        seen = self.seens[name]
        following = met(self.schema, name, seen, value, entry=number)
        self.source_rows[name] = next_sources(self.schema, name, seen, self.source_rows[name],
                                              number, value)
        self.entry_rows[name] = (*self.entry_rows[name], number)
        self.seens[name] = following


class Checked:
    """The entries of one file, checked without error."""

    def __init__(self, schema, entries, standing):
        self.schema = schema
        self.entries = entries
        self.standing = standing

    def __len__(self):
        return len(self.entries)

    def __eq__(self, other):
        return (isinstance(other, Checked) and self.schema == other.schema
                and self.entries == other.entries)

    def given(self, name):
        """The seen of a setting behind the last entry. Raises NoSetting(name)."""
        return self.standing.seens[self.schema.setting(name).name]

    def sources(self, name):
        """The numbers of the entries that make up the value. Raises NoSetting(name)."""
        return self.standing.source_rows[self.schema.setting(name).name]

    def entries_of(self, name):
        """The numbers of all entries that call a setting. Raises NoSetting(name)."""
        return self.standing.entry_rows[self.schema.setting(name).name]

    @property
    def worths(self):
        """A dict from each name whose seen has a value to this value."""
        seens = self.standing.seens
        return {name: seens[name][1] for name in self.schema.names if len(seens[name]) == 2}

    def with_value(self, entry, value):
        """The same entries with another value in one of them. Raises NoEntry, or as checked."""
        self.check_entry(entry)
        entries = [(row[0], value) if at == entry else row for at, row in enumerate(self.entries)]
        return checked(self.schema, entries)

    def without(self, entry):
        """The other entries. Raises NoEntry, or as checked."""
        self.check_entry(entry)
        entries = [row for at, row in enumerate(self.entries) if at != entry]
        return checked(self.schema, entries)

    def check_entry(self, entry):
        """Raises NoEntry for any object that is no number of an entry."""
        if not is_integer(entry) or not 0 <= entry < len(self.entries):
            raise NoEntry(entry)


def checked(schema, entries):
    """The checked file of some entries. Raises the error of the first entry at fault."""
    standing = Standing(schema)
    for number, entry in enumerate(entries):
        standing.meet(number, entry)
    return Checked(schema, tuple(entries), standing)


def fault_at(standing, number, entry):
    """Goes on by one entry; the complaint if it is at fault, otherwise None."""
    try:
        standing.meet(number, entry)
    except UnknownName as unknown:
        return (number, "unknown", unknown.word)
    except WrongKind as wrong:
        return (number, "wrong", wrong.name)
    except DoubledName as doubled:
        return (number, "doubled", doubled.name)
    return None


def complaints(schema, entries):
    """All entries at fault: tuples (entry, what, word), ascending by entry."""
    standing = Standing(schema)
    faults = [fault_at(standing, number, entry) for number, entry in enumerate(entries)]
    return [fault for fault in faults if fault is not None]


def entries_left(schema, entries):
    """The entries that are not complained of, in order."""
    numbers = [fault[0] for fault in complaints(schema, entries)]
    return [entry for number, entry in enumerate(entries) if number not in numbers]
