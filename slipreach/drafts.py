"""Drafts: ripe traces made into shapes, each of which is told once."""

from slipreach.growth import ripe_traces
from slipreach.shapes import Shape
from slipreach.symbols import ITEMS, entry_symbols, symbol_sort
from slipreach.tokens import is_sign

# A stand is a tuple (text, at, ahead, behind) of a draft; its sides have these indexes.
AHEAD = 2
BEHIND = 3


def new_names(before, token):
    """A dict from symbols to new ones, counted in the order of the entries, then the token."""
    symbols = entry_symbols(before)
    if token is not None and not is_sign(token):
        symbols.append(token)
    names = {}
    counts = {"w": 0, "n": 0}
    for symbol in symbols:
        if symbol not in names:
            letter = "n" if symbol_sort(symbol) == "number" else "w"
            names[symbol] = f"{letter}{counts[letter]}"
            counts[letter] += 1
    return names


def renamed_value(value, names):
    """The value of a shape entry with other symbols."""
    if value is None or value[0] == "yes":
        return value
    if value[0] != "list":
        return (value[0], names[value[1]])
    return ("list", tuple([renamed_part(part, names) for part in value[1]]))


def renamed_part(part, names):
    """A part of a list with other symbols."""
    if part[0] in ITEMS:
        return part
    return (part[0], *[names[symbol] for symbol in part[1:]])


def renamed_entries(entries, names):
    """Shape entries with other symbols."""
    return tuple([(names[name], renamed_value(value, names)) for name, value in entries])


class Draft:
    """A ripe trace with its symbols counted anew: a shape whose sides are not settled."""

    def __init__(self, trace):
        origin = trace.origin
        names = new_names(trace.first[1], origin.token)
        self.at = origin.at
        self.slip = (origin.kind, origin.role, names.get(origin.token, origin.token))
        self.before = renamed_entries(trace.first[1], names)
        self.owner = origin.owner
        self.after = None if trace.second is None else renamed_entries(trace.second[1], names)
        self.unlike = tuple([(names[one], names[other]) for one, other in origin.unlike])
        self.fixed = {names[symbol]: origin.fixed[symbol] for symbol in origin.fixed}
        self.text = tuple([names.get(symbol, symbol) for symbol in trace.text])
        self.ahead = "joint" if origin.context.joint else origin.context.ahead

    def change(self):
        """What the draft tells of the slip and the entries, as a key."""
        fixed = tuple([(symbol, self.fixed[symbol]) for symbol in sorted(self.fixed)])
        return (self.slip, self.before, self.owner, self.after, self.unlike, fixed)

    def shape(self, stand):
        """The shape of the draft with another stand."""
        text, at, ahead, behind = stand
        sides = ("some" if ahead == "joint" else ahead, behind, ahead == "joint")
        entries = (self.before, self.owner, self.after, self.unlike, dict(self.fixed))
        return Shape((*self.slip, at), entries, sides, text)


def with_side(stand, side, word):
    """A stand with another word on one side."""
    return (*stand[:side], word, *stand[side + 1:])


def widened(stands, side):
    """Stands with "any" where the same text stands with "none" and with "some" on a side."""
    return [with_side(stand, side, "any")
            if stand[side] == "none" and with_side(stand, side, "some") in stands else stand
            for stand in stands]


def wider(word):
    """The words of a side that hold wherever this one does."""
    return ("joint", "some", "any") if word == "joint" else (word, "any")


def covers(one, other):
    """Whether each instance of another stand of the same change is one of this one."""
    return one[AHEAD] in wider(other[AHEAD]) and one[BEHIND] in wider(other[BEHIND])


def needed(stands):
    """Those of the stands of one change that no other one covers."""
    kept = []
    for stand in stands:
        if not any([covers(other, stand) for other in kept]):
            kept = [*[other for other in kept if not covers(stand, other)], stand]
    return kept


def drawn_shapes(language, rule, ends):
    """The shapes of a rule that is near in a language, a tuple."""
    drafts = {}
    stands = {}
    for trace, behind in ripe_traces(language, rule, ends):
        draft = Draft(trace)
        key = draft.change()
        if key not in drafts:
            drafts[key] = draft
            stands[key] = []
        stands[key].append((draft.text, draft.at, draft.ahead, behind))
    shapes = []
    for key in drafts:
        rows = needed(widened(widened(stands[key], BEHIND), AHEAD))
        shapes.extend([drafts[key].shape(stand) for stand in rows])
    return tuple(shapes)
