"""Templates: shapes with a setting, or none, for each name in them; what the names do not matter for is left out.

An entry of a template is a tuple (name of a setting, or "" for none, value of a shape entry).
"""

from slipreach.symbols import ITEMS, symbol_sort, value_symbols

READ = "read"
UNREADABLE = "reader"
UNKNOWN = "schema"


def name_symbols(entries):
    """The symbols of the names in some shape entries."""
    return [name for name, _ in entries]


def names_of(shape):
    """The symbols that stand for names before or behind a slip, each once."""
    after = [] if shape.after is None else name_symbols(shape.after)
    return list({symbol: True for symbol in [*name_symbols(shape.before), *after]})


def targets_for(house, shape, symbol):
    """The settings that a name may call, "" for none."""
    if symbol in shape.fixed:
        name = house.schema.called(shape.fixed[symbol])
        return ["" if name is None else name]
    return [*house.schema.names, ""]


def castings(house, shape):
    """All ways to give each name a setting or none: a list of dicts."""
    rows = [{}]
    for symbol in names_of(shape):
        targets = targets_for(house, shape, symbol)
        rows = [{**row, symbol: target} for row in rows for target in targets]
    return rows


def cast(entries, casting):
    """Shape entries with settings in the place of their names."""
    return [(casting[name], value) for name, value in entries]


def used_symbols(entries):
    """The symbols of words and numbers in the values of settings, in order, perhaps repeated."""
    return [symbol for name, value in entries if name != "" for symbol in value_symbols(value)]


def renamed(name, value, names):
    """The value of a shape entry of a setting with other symbols, where they are told."""
    if value is None or value[0] == "yes":
        return value
    if value[0] != "list":
        return (value[0], names.get(value[1], "")) if name != "" else None
    parts = [part if part[0] in ITEMS else (part[0], *[names.get(symbol, "") for symbol in part[1:]])
             for part in value[1]]
    return ("list", tuple(parts))


def word_count(house, name):
    """How many words call a setting, if a name must be unlike another one; none has enough."""
    return 2 if name == "" else 1 + len(house.schema.setting(name).elders)


class Template:
    """What a slip does to the settings, whatever the words of their names are."""

    def __init__(self, house, shape, casting):
        self.before = cast(shape.before, casting)
        self.after = []
        self.status = UNREADABLE
        if shape.after is not None:
            self.after = cast(shape.after, casting)
            self.status = READ
            if house.schema.unknown == "refuse" and "" in [name for name, _ in self.after]:
                self.after = []
                self.status = UNKNOWN
        self.needs = ("joint" if shape.joint else shape.ahead, shape.behind)
        self.place = (shape.kind, shape.role, self.before[shape.owner][0])
        self.outline = shape
        self.casting = casting
        self.tight = self.tight_symbols()
        self.is_sound = self.is_possible(house)
        self.settle()

    def tight_symbols(self):
        """The symbols whose tokens matter for what stands in settings, in order, each once."""
        used = used_symbols([*self.before, *self.after])
        for one, other in self.outline.unlike:
            # A name need not be told unless it must be unlike a token that matters.
            if one in used and other in self.casting:
                used.append(other)
            if other in used and one in self.casting:
                used.append(one)
        return list({symbol: True for symbol in used})

    def is_possible(self, house):
        """Whether files that the house takes can have such names."""
        if house.schema.unknown == "refuse" and "" in [name for name, _ in self.before]:
            return False
        for one, other in self.outline.unlike:
            is_loose = one not in self.tight and other not in self.tight
            if is_loose and one in self.casting and other in self.casting:
                name = self.casting[one]
                if name == self.casting[other] and word_count(house, name) < 2:
                    return False
        return True

    def settle(self):
        """Counts the symbols that matter anew, so that templates can be told apart by their keys."""
        counts = {"w": 0, "n": 0}
        self.names = {}
        for symbol in self.tight:
            letter = "n" if symbol_sort(symbol) == "number" else "w"
            self.names[symbol] = f"{letter}{counts[letter]}"
            counts[letter] += 1
        self.before = tuple([(name, renamed(name, value, self.names)) for name, value in self.before])
        self.after = tuple([(name, renamed(name, value, self.names)) for name, value in self.after])
        names = self.names
        self.name_targets = {names[symbol]: self.casting[symbol] for symbol in self.casting if symbol in names}
        self.fixed = {names[symbol]: self.outline.fixed[symbol] for symbol in self.outline.fixed if symbol in names}
        self.unlike = [(names[one], names[other]) for one, other in self.outline.unlike
                       if one in names and other in names]

    def setting_names(self):
        """The names of the settings in the entries, each once."""
        return list({name: True for name, _ in [*self.before, *self.after] if name != ""})

    def mark(self):
        """A tuple that is equal for two templates exactly if the same files come of them."""
        called = tuple([(symbol, self.name_targets[symbol]) for symbol in sorted(self.name_targets)])
        fixed = tuple([(symbol, self.fixed[symbol]) for symbol in sorted(self.fixed)])
        return (self.before, self.after, self.status, self.needs, called, fixed, tuple(self.unlike))


def templates_of(house, shapes):
    """All templates of some shapes that files of a house can have, each with all its places.

    A list of tuples (template, dict from (kind, role, name) to a template with this place).
    """
    found = {}
    places = {}
    for shape in shapes:
        for casting in castings(house, shape):
            template = Template(house, shape, casting)
            if template.is_sound:
                key = template.mark()
                if key not in found:
                    found[key] = template
                    places[key] = {}
                places[key].setdefault(template.place, template)
    return [(found[key], places[key]) for key in found]
