"""Writing entries: plainly, and as short as possible."""

from slipreach.errors import Unwritable
from slipreach.tokens import is_list_value, is_number, is_word


def writable_value(language, value):
    """Whether any object is a value that a language can write."""
    if value is None:
        return language.nothing
    if is_word(value) or is_number(value):
        return True
    if not is_list_value(value):
        return False
    return language.comma == "joins" or all([is_word(item) for item in value])


def writable(language, thing):
    """Whether any object is an entry that a language can write."""
    if not isinstance(thing, tuple) or len(thing) != 2:
        return False
    return is_word(thing[0]) and writable_value(language, thing[1])


def check_writable(language, entries):
    """Raises Unwritable for the first object that is not writable."""
    for entry in entries:
        if not writable(language, entry):
            raise Unwritable(entry)


def joined_items(members, between):
    """The tokens of some items, with some tokens between two of them."""
    row = []
    for at, member in enumerate(members):
        if at > 0:
            row.extend(between)
        row.extend(member.split(" "))
    return row


def list_tokens(language, members, between):
    """The tokens of a list."""
    row = ["[", *joined_items(members, between)]
    if members and language.last == "must":
        row.append(",")
    row.append("]")
    return row


def value_tokens(language, value, between):
    """The tokens of a value; none for nothing."""
    if value is None:
        return []
    if isinstance(value, tuple):
        return list_tokens(language, value, between)
    return [str(value)]


def plain(language, entries):
    """The file of some entries, written plainly. Raises Unwritable(entry)."""
    check_writable(language, entries)
    file = []
    for name, value in entries:
        file.extend([name, "=", *value_tokens(language, value, [","]), ";"])
    return file


def short_entry(language, name, value):
    """The fewest tokens of an entry, without its `;`, and the state behind them."""
    if value == "yes" and language.bare:
        return [name], "name"
    between = [] if language.comma == "may" else [","]
    row = value_tokens(language, value, between)
    if value is None:
        return [name, "="], "equals"
    if language.equals == "may":
        return [name, *row], "done"
    return [name, "=", *row], "done"


def needs_end(language, state, is_last):
    """Whether a `;` must stand behind an entry that ends in a state."""
    if language.end == "must":
        return True
    if is_last:
        return False
    return not language.begins(state)


def shortest(language, entries):
    """The file with the fewest tokens that reads as these entries. Raises Unwritable(entry)."""
    check_writable(language, entries)
    file = []
    for at, (name, value) in enumerate(entries):
        row, state = short_entry(language, name, value)
        file.extend(row)
        if needs_end(language, state, at == len(entries) - 1):
            file.append(";")
    return file
