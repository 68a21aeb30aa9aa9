"""Houses: files are read, checked, joined, and a condition is made of them."""

from slipreach.checking import checked
from slipreach.errors import BadFiles, BadHouse, DoubledName, EmptyList, Lacking, NoSetting, Refused
from slipreach.errors import TopLacking, Unreadable, UnknownName, WrongKind
from slipreach.layers import MOST_LAYERS, joined
from slipreach.reader import read
from slipreach.tokens import is_integer, is_one_of

BUILDER_KINDS = {"choice": "word", "word": "word", "number": "number", "list": "list"}


def are_kinds_known(schema, kinds):
    """Whether the schema has settings of all kinds that a builder has for some names."""
    for name in kinds:
        if name not in schema.names or BUILDER_KINDS[schema.setting(name).kind] != kinds[name]:
            return False
    return True


def check_count(house, files):
    """Raises BadFiles(count) unless there is a file, or None, for each layer."""
    if len(files) != house.layers:
        raise BadFiles(len(files))


def copied_files(files):
    """A copy of the files of all layers."""
    return [None if file is None else list(file) for file in files]


def read_all(house, files):
    """The entries of all files; None for a layer without a file. Raises BadFiles, Unreadable."""
    check_count(house, files)
    return [None if file is None else read(house.language, file) for file in files]


class House:
    """What reads settings files and makes a condition of them."""

    def __init__(self, language, schema, builder, *, layers=1):
        if not is_integer(layers) or not 1 <= layers <= MOST_LAYERS:
            raise BadHouse("layers")
        if not are_kinds_known(schema, builder.kinds):
            raise BadHouse("builder")
        self.language = language
        self.schema = schema
        self.builder = builder
        self.layers = layers

    def run(self, files):
        """The Plan of the files of all layers. Raises BadFiles, or the first error of the four stages."""
        rows = read_all(self, files)
        checks = [None if row is None else checked(self.schema, row) for row in rows]
        found = joined(self.schema, checks)
        return Plan(self.schema, found, self.builder(found))


class Plan:
    """The joined settings, and the condition that the builder made of them."""

    def __init__(self, schema, found, condition):
        self.schema = schema
        self.found = found
        self.condition = condition

    @property
    def settings(self):
        """The joined settings, a new dict."""
        return dict(self.found)

    def __getitem__(self, at):
        if not is_one_of(at, self.schema.names):
            raise NoSetting(at)
        return self.found.get(at)

    def __contains__(self, x):
        return isinstance(x, str) and x in self.found

    def __iter__(self):
        raise TypeError("a plan is not iterated over")


def stage(error):
    """The stage of an error of a run; None for any other value."""
    if isinstance(error, Unreadable):
        return "reader"
    if isinstance(error, (UnknownName, WrongKind, DoubledName)):
        return "schema"
    if isinstance(error, (TopLacking, Lacking, EmptyList)):
        return "joining"
    return "builder" if isinstance(error, Refused) else None


def weight(house, files):
    """How many entries some files have, and items of lists in them. Raises BadFiles, Unreadable."""
    entries = [entry for row in read_all(house, files) if row is not None for entry in row]
    return len(entries) + sum([len(value) for _, value in entries if isinstance(value, tuple)])
