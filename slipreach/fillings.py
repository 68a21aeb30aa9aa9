"""Fillings: which tokens and items the symbols of shape entries stand for."""

from slipreach.symbols import ITEMS
from slipreach.tokens import is_item, is_number, is_numeral, is_word


def is_filling(symbol, thing):
    """Whether any object is one that a symbol may stand for."""
    if symbol in ITEMS:
        return isinstance(thing, tuple) and len(thing) > 0 and all([is_item(item) for item in thing])
    return is_numeral(thing) if symbol.startswith("n") else is_word(thing)


def filled_part(part, filling):
    """The items of one part of a list."""
    if part[0] in ITEMS:
        return filling[part[0]]
    return (" ".join([filling[symbol] for symbol in part[1:]]),)


def filled_value(value, filling):
    """The value of a shape entry."""
    if value is None:
        return None
    if value[0] == "yes":
        return "yes"
    if value[0] == "word":
        return filling[value[1]]
    if value[0] == "number":
        return int(filling[value[1]])
    return tuple([item for part in value[1] for item in filled_part(part, filling)])


def filled_entries(entries, filling):
    """The entries of shape entries, a list."""
    return [(filling[name], filled_value(value, filling)) for name, value in entries]


def items_bound(parts, members):
    """The filling that gives parts without head and tail as many items, in a list, or none."""
    filling = {}
    for part, member in zip(parts, members):
        words = member.split(" ")
        if len(words) != len(part) - 1:
            return []
        filling.update({symbol: word for symbol, word in zip(part[1:], words)})
    return [filling]


def split_list(parts, members, ahead, behind):
    """The fillings of a list with so many items in its head and in its tail."""
    edges = {}
    if ahead > 0:
        edges["head"] = tuple(members[:ahead])
    if behind > 0:
        edges["tail"] = tuple(members[len(members) - behind:])
    inner = [part for part in parts if part[0] not in ITEMS]
    return [{**filling, **edges} for filling in items_bound(inner, members[ahead:len(members) - behind])]


def list_fillings(parts, members):
    """All fillings that give the parts of a list these items."""
    names = [part[0] for part in parts]
    spare = len(members) - len([name for name in names if name not in ITEMS])
    if "head" not in names and "tail" not in names:
        return split_list(parts, members, 0, 0) if spare == 0 else []
    if "tail" not in names:
        return split_list(parts, members, spare, 0) if spare > 0 else []
    if "head" not in names:
        return split_list(parts, members, 0, spare) if spare > 0 else []
    return [filling for ahead in range(1, spare)
            for filling in split_list(parts, members, ahead, spare - ahead)]


def value_fillings(value, wanted):
    """All fillings that give the value of a shape entry this value."""
    if value is None:
        return [{}] if wanted is None else []
    if value[0] == "yes":
        return [{}] if wanted == "yes" else []
    if value[0] == "word":
        return [{value[1]: wanted}] if is_word(wanted) else []
    if value[0] == "number":
        return [{value[1]: str(wanted)}] if is_number(wanted) else []
    return list_fillings(value[1], wanted) if isinstance(wanted, tuple) else []


def entry_fillings(entries, wanted):
    """All fillings that make shape entries these entries, of which there are as many.

    No symbol stands twice in the entries before a slip, so the fillings of two of them agree.
    """
    fillings = [{}]
    for (name, value), (word, worth) in zip(entries, wanted):
        news = [{name: word, **filling} for filling in value_fillings(value, worth)]
        fillings = [{**known, **new} for known in fillings for new in news]
    return fillings


def keeps(filling, fixed, unlike):
    """Whether a filling has the fixed tokens and unlike tokens where it should."""
    if any([filling[symbol] != fixed[symbol] for symbol in fixed]):
        return False
    return all([filling[one] != filling[other] for one, other in unlike])
