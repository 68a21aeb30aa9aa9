"""Showings: whole files that show what a template, its filling and the entries around it lead to."""

from slipreach.beside import told_words
from slipreach.rowkinds import fresh_words
from slipreach.schema import all_words
from slipreach.shapes import placed
from slipreach.symbols import ITEMS, symbol_sort
from slipreach.verdicts import STRANGE
from slipreach.writer import plain

ANY_VALUE = 0


class Showing:
    """A slip of a template in a layer, its filling, and the values of all other entries.

    The values are tuples (name, values in each layer); those of the slip's layer are a tuple
    (values ahead, values behind). Of entries that call no setting their numbers are told.
    """

    def __init__(self, template, layer, filling, told):
        self.template = template
        self.layer = layer
        self.filling = filling
        self.told = told


def partners(shape, symbol):
    """The symbols whose tokens must be unlike that of a symbol."""
    firsts = [one for one, other in shape.unlike if other == symbol]
    return [*firsts, *[other for one, other in shape.unlike if one == symbol]]


def tokens_for(house, rule, template, symbol):
    """Tokens that a symbol may stand for, if it does not matter which."""
    if symbol in template.outline.fixed:
        return [template.outline.fixed[symbol]]
    if symbol_sort(symbol) == "number":
        return ["0", "1"]
    name = template.casting.get(symbol, "")
    return fresh_words(told_words(house, rule), 2) if name == "" else all_words([house.schema.setting(name)])


def shape_filling(house, rule, showing):
    """The filling of the shape of a showing."""
    template = showing.template
    filling = {symbol: showing.filling[template.names[symbol]] for symbol in template.names}
    filling.update({edge: showing.filling[edge] for edge in ITEMS if edge in showing.filling})
    for symbol in template.outline.symbols:
        if symbol not in filling:
            unlike = [filling.get(other) for other in partners(template.outline, symbol)]
            rows = tokens_for(house, rule, template, symbol)
            filling[symbol] = [token for token in rows if token not in unlike][0]
    return filling


def strange_entries(house, rule, count):
    """So many entries that call no setting."""
    return [(fresh_words(told_words(house, rule), 1)[0], ANY_VALUE) for _ in range(count)]


def entries_beside(house, rule, showing, side):
    """The entries on one side of the slip in its layer, a list for each setting."""
    groups = []
    for name, rows in showing.told:
        if name == STRANGE:
            groups.append(strange_entries(house, rule, rows[side]))
        else:
            groups.append([(name, value) for value in rows[showing.layer][side]])
    return groups


def with_whole_end(groups):
    """The entries of some groups, the last one not nothing if this can be."""
    wholes = [at for at, group in enumerate(groups) if group and group[-1][1] is not None]
    last = wholes[0] if wholes else 0
    return [*[entry for at, group in enumerate(groups) for entry in group if at != last], *groups[last]]


def layer_file(house, showing, layer):
    """The file of a layer without the slip; None if it has no entries."""
    entries = [(name, value) for name, rows in showing.told if name != STRANGE for value in rows[layer]]
    return plain(house.language, entries) if entries else None


def shown_files(house, rule, showing):
    """The files of a showing, and the slip."""
    ahead = with_whole_end(entries_beside(house, rule, showing, 0))
    behind = [entry for group in entries_beside(house, rule, showing, 1) for entry in group]
    filling = shape_filling(house, rule, showing)
    file, slip = placed(house.language, showing.template.outline, filling, ahead, behind)
    files = [file if layer == showing.layer else layer_file(house, showing, layer)
             for layer in range(house.layers)]
    return files, slip
