"""Fills: what the symbols of a template can stand for beside a row, as far as it matters."""

from slipreach.fillings import filled_value
from slipreach.schema import all_words
from slipreach.sights import cost_of_values
from slipreach.symbols import ITEMS, symbol_sort


def list_parts(name, value):
    """The parts of a list in an entry of a setting; none for other values."""
    return value[1] if name != "" and value is not None and value[0] == "list" else ()


def uses_of(template, symbol):
    """Where a symbol stands: tuples of "value", "item", 1 or 2 (its place in a pair) and a setting."""
    uses = []
    for name, value in [*template.before, *template.after]:
        if name != "" and value is not None and value[0] in ("word", "number") and value[1] == symbol:
            uses.append(("value", name))
        for part in list_parts(name, value):
            uses.extend([("item" if part[0] == "item" else place, name)
                         for place in range(1, len(part)) if part[place] == symbol])
    return list({use: True for use in uses})


def edge_settings(schema, template, edge):
    """The list settings whose lists have a head, or a tail."""
    names = [name for name, value in [*template.before, *template.after]
             if edge in [part[0] for part in list_parts(name, value)]]
    return [name for name in schema.names if name in names and schema.setting(name).kind == "list"]


class Filler:
    """Fills templates beside the row of a sight."""

    def __init__(self, sight):
        self.sight = sight
        self.schema = sight.house.schema
        # The words at both places of those pairs that can be told apart from all others.
        pairs = [value.split(" ") for value in sight.words if " " in value]
        self.paired = [["", *pair] for pair in pairs]

    def told_in(self, use, thing):
        """What can be told of a word or a number in one of its uses."""
        where, name = use
        if where == "value":
            return self.sight.plain_value(name, thing)
        if self.schema.setting(name).kind != "list":
            return None
        if where == "item":
            return self.sight.single_keys([name], thing)
        return thing if thing in [pair[where] for pair in self.paired] else ""

    def things_for(self, template, symbol):
        """All words or numbers that a symbol may stand for, in the order in which they are tried."""
        if symbol in template.fixed:
            token = template.fixed[symbol]
            return [int(token) if symbol_sort(symbol) == "number" else token]
        if symbol_sort(symbol) == "number":
            return self.sight.numbers
        if symbol not in template.name_targets:
            return self.sight.singles
        name = template.name_targets[symbol]
        if name == "":
            return [word for word in self.sight.singles if self.schema.called(word) is None]
        return all_words([self.schema.setting(name)])

    def choices(self, template, symbol):
        """Some of the things that a symbol may stand for, at least one for each way to be told."""
        uses = uses_of(template, symbol)
        # Of two tokens that must be unlike each one needs another choice of its sort.
        most = 2 if symbol in [one for pair in template.unlike for one in pair] else 1
        found = {}
        for thing in self.things_for(template, symbol):
            key = tuple([self.told_in(use, thing) for use in uses])
            row = found.setdefault(key, [])
            if len(row) < most:
                row.append(thing)
        return [thing for key in found for thing in found[key]]

    def edge_choices(self, template, edge):
        """The items that a head or a tail may stand for, at least one list for each way to be told."""
        names = edge_settings(self.schema, template, edge)
        if not names:
            return [(self.sight.fresh[0],)]
        return [things for things in self.sight.lists_of(tuple(names)) if things != ()]

    def symbol_rows(self, template):
        """All that the symbols stand for, one row for each way in which all but head and tail can be told."""
        rows = [{"head": (), "tail": ()}]
        for symbol in list(template.names.values()):
            things = [str(thing) for thing in self.choices(template, symbol)]
            rows = [{**row, symbol: thing} for row in rows for thing in things]
        found = {}
        for row in rows:
            if all([row[one] != row[other] for one, other in template.unlike]):
                found.setdefault(self.effect_of(template, row), row)
        return [found[effect] for effect in found]

    def filled_rows(self, template):
        """All that the symbols, the head and the tail stand for: a list of dicts."""
        rows = self.symbol_rows(template)
        for edge in ITEMS:
            if edge_in(template, edge):
                things = self.edge_choices(template, edge)
                rows = [{**row, edge: thing} for row in rows for thing in things]
        return rows

    def value_of(self, name, value, row):
        """The value of an entry of a template, or one that costs as much if it calls no setting."""
        return filled_value(value, row) if name != "" else unknown_value(value, row)

    def plain_values(self, entries, row):
        """Tuples (name of a setting, its plain values in order) for the settings of some entries."""
        found = {}
        for name, value in entries:
            if name != "":
                plain = self.sight.plain_value(name, self.value_of(name, value, row))
                found[name] = (*found.get(name, ()), plain)
        return found

    def effect_of(self, template, row):
        """The effect of a filling: tuples (name, plain values without the slip, plain values with it)."""
        before = self.plain_values(template.before, row)
        after = self.plain_values(template.after, row)
        names = [name for name in self.schema.names if name in before or name in after]
        return tuple([(name, before.get(name, ()), after.get(name, ())) for name in names])

    def effects(self, template):
        """A dict from all effects of a template to (least cost of the entries before the slip, filling)."""
        found = {}
        for row in self.filled_rows(template):
            effect = self.effect_of(template, row)
            cost = cost_of_values([self.value_of(name, value, row) for name, value in template.before])
            if effect not in found or cost < found[effect][0]:
                found[effect] = (cost, row)
        return found


def edge_in(template, edge):
    """Whether a head or a tail stands in any list of a template, also in one of no setting."""
    parts = [part[0] for _, value in [*template.before, *template.after]
             if value is not None and value[0] == "list" for part in value[1]]
    return edge in parts


def unknown_value(value, row):
    """A value that costs as much as that of an entry that calls no setting."""
    if value is None or value[0] != "list":
        return None
    return tuple([item for part in value[1] for item in (row[part[0]] if part[0] in ITEMS else ("",))])
