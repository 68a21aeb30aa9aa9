"""Readings of texts that have symbols in the place of words, numerals and items."""

from slipreach.tokens import is_sign

ITEMS = ("head", "tail")


def symbol_sort(symbol):
    """The sort of the tokens that a sign or a symbol w.. or n.. stands for."""
    if is_sign(symbol):
        return symbol
    return "number" if symbol.startswith("n") else "word"


def with_last_value(entries, value):
    """Shape entries with another value in the last one."""
    return (*entries[:-1], (entries[-1][0], value))


def with_part(entries, part):
    """Shape entries with one part more in the list of the last one."""
    parts = entries[-1][1][1]
    return with_last_value(entries, ("list", (*parts, part)))


def with_second(entries, symbol):
    """Shape entries whose last item has become a pair with a second word."""
    parts = entries[-1][1][1]
    pair = ("pair", parts[-1][1], symbol)
    return with_last_value(entries, ("list", (*parts[:-1], pair)))


def entries_behind(entries, after, symbol):
    """Shape entries behind one more symbol that has led to a state."""
    if after == "name":
        return (*entries, (symbol, ("yes",)))
    if after == "equals":
        return with_last_value(entries, None)
    if after == "open":
        return with_last_value(entries, ("list", ()))
    if after == "item":
        return with_part(entries, ("item", symbol))
    if after == "pair":
        return with_second(entries, symbol)
    if after == "done" and symbol != "]":
        return with_last_value(entries, (symbol_sort(symbol), symbol))
    return entries


def went_on(language, reading, symbol):
    """The reading (state, shape entries) behind one more symbol, or None."""
    if reading is None:
        return None
    state, entries = reading
    if symbol in ITEMS:
        # Behind items stands a sign, and signs lead from item and from pair to the same states.
        return ("pair", with_part(entries, (symbol, 1)))
    after = language.step(state, symbol_sort(symbol))
    if after is None:
        return None
    return (after, entries_behind(entries, after, symbol))


def went_through(language, reading, symbols):
    """The reading behind some more symbols, or None."""
    for symbol in symbols:
        reading = went_on(language, reading, symbol)
    return reading


def new_symbol(sort, used):
    """A sign itself; for a word or a number the first symbol that is not used yet."""
    if sort not in ("word", "number"):
        return sort
    letter = "w" if sort == "word" else "n"
    count = 0
    while f"{letter}{count}" in used:
        count += 1
    return f"{letter}{count}"


def value_symbols(value):
    """The symbols w.. and n.. in the value of a shape entry, in order."""
    if value is None or value == ("yes",):
        return []
    if value[0] != "list":
        return [value[1]]
    return [symbol for part in value[1] if part[0] not in ITEMS for symbol in part[1:]]


def entry_symbols(entries):
    """The symbols w.. and n.. in shape entries, in order, perhaps repeated."""
    return [symbol for name, value in entries for symbol in [name, *value_symbols(value)]]
