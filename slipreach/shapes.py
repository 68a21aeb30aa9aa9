"""Shapes: the changes that slips make, with symbols for tokens."""

from slipreach.cases import Case
from slipreach.errors import BadFilling, NotPlaced
from slipreach.fillings import filled_entries, is_filling
from slipreach.slips import Slip
from slipreach.symbols import ITEMS
from slipreach.tokens import is_sign
from slipreach.writer import joined_items, plain


def by_number(symbols, letter):
    """The symbols of one letter, each once, ascending by number."""
    numbers = sorted(set([int(symbol[1:]) for symbol in symbols if symbol.startswith(letter)]))
    return [f"{letter}{number}" for number in numbers]


def token_symbols(text, token):
    """The symbols w.. and n.. of a text and a written token, ascending."""
    symbols = [symbol for symbol in [*text, token] if symbol is not None]
    return (*by_number(symbols, "w"), *by_number(symbols, "n"))


class Shape:
    """What slips of one kind do to the entries around them."""

    def __init__(self, slip, entries, sides, text):
        self.kind, self.role, self.token, self.at = slip
        self.before, self.owner, self.after, self.unlike, self.fixed = entries
        self.ahead, self.behind, self.joint = sides
        self.text = text
        self.symbols = token_symbols(text, self.token)
        self.has_head = "head" in text
        self.has_tail = "tail" in text


class Window:
    """A shape whose symbols are filled."""

    def __init__(self, tokens, slip, before, after):
        self.tokens = tokens
        self.slip = slip
        self.before = before
        self.after = after


def check_filling(shape, filling):
    """Raises BadFilling(symbol) unless a dict is a filling of a shape."""
    edges = [edge for edge in ITEMS if edge in shape.text]
    for symbol in [*shape.symbols, *edges]:
        thing = filling.get(symbol)
        if not is_filling(symbol, thing):
            raise BadFilling(symbol)
        if symbol in shape.fixed and thing != shape.fixed[symbol]:
            raise BadFilling(symbol)
    for one, other in shape.unlike:
        if filling[one] == filling[other]:
            raise BadFilling(other)


def filled_text(text, filling):
    """The tokens of some signs and symbols."""
    row = []
    for symbol in text:
        if is_sign(symbol):
            row.append(symbol)
        elif symbol in ITEMS:
            row.extend(joined_items(filling[symbol], [","]))
        else:
            row.append(filling[symbol])
    return row


def filled(shape, filling):
    """The window of a shape with a filling. Raises BadFilling(symbol)."""
    check_filling(shape, filling)
    at = len(filled_text(shape.text[:shape.at], filling))
    token = shape.token
    if token is not None and not is_sign(token):
        token = filling[token]
    before = filled_entries(shape.before, filling)
    after = None if shape.after is None else filled_entries(shape.after, filling)
    return Window(filled_text(shape.text, filling), Slip(shape.kind, at, token), before, after)


def is_beside(side, entries):
    """Whether there are as many entries as a shape says of one side."""
    if side == "none":
        return len(entries) == 0
    return side == "any" or len(entries) > 0


def check_sides(shape, ahead, behind):
    """Raises NotPlaced(side) unless a shape may stand between these entries."""
    if not is_beside(shape.ahead, ahead) or (shape.joint and ahead[-1][1] is None):
        raise NotPlaced("ahead")
    if not is_beside(shape.behind, behind):
        raise NotPlaced("behind")


def placed(language, shape, filling, ahead, behind):
    """A file with a shape in it, and the slip there. Raises BadFilling, then NotPlaced(side)."""
    window = filled(shape, filling)
    check_sides(shape, ahead, behind)
    beginning = plain(language, ahead)
    if shape.joint:
        beginning = beginning[:-1]
    file = [*beginning, *window.tokens, *plain(language, behind)]
    return file, Slip(shape.kind, len(beginning) + window.slip.at, window.slip.token)


def instance(language, shape, file, slip):
    """A filling by which a slip in a file is an instance of a shape, or None. Raises Unreadable."""
    return Case(language, file, slip).filling_of(shape)
