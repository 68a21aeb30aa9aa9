"""Pages of fates, read again and made."""

from slipreach.errors import BadPage
from slipreach.fates import ROLES, page_line
from slipreach.playing import FATES
from slipreach.slips import KINDS
from slipreach.tokens import is_word

LAYERS = ("0", "1", "2")
WIDTHS = (8, 2, 8, 13)


def fields_of(line):
    """The parts of a line: those of told widths without the spaces on the right, and the rest; or None."""
    fields = []
    at = 0
    for width in WIDTHS:
        part = line[at:at + width]
        field = part.rstrip(" ")
        if field.ljust(width) != part:
            return None
        fields.append(field)
        at += width
    return [*fields, line[at:]]


def fates_in(text):
    """The fates that stand in a text, or None if it is not as it should be."""
    words = text.split(", ")
    if not all([word in FATES for word in words]):
        return None
    found = tuple([fate for fate in FATES if fate in words])
    return found if list(found) == words else None


def read_line(line):
    """A tuple of the place and the fates of a line, or None."""
    fields = fields_of(line)
    if fields is None:
        return None
    kind, layer, role, name, rest = fields
    if kind not in KINDS or layer not in LAYERS or role not in ROLES or not (name == "" or is_word(name)):
        return None
    found = fates_in(rest)
    return None if found is None else ((kind, int(layer), role, name), found)


def read_page(lines):
    """A dict from places to tuples of fates. Raises BadPage(line)."""
    table = {}
    for index, line in enumerate(lines):
        row = read_line(line)
        if row is None or row[0] in table:
            raise BadPage(index)
        table[row[0]] = row[1]
    return table


def line_rank(place):
    """A tuple by which the lines of a page are ordered."""
    kind, layer, role, name = place
    return (KINDS.index(kind), layer, ROLES.index(role), name == "", name)


def page_of(table):
    """The lines of a dict from places to tuples of fates."""
    return [page_line(place, table[place]) for place in sorted(table, key=line_rank)]
