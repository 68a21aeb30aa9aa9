"""Traces: a text with a slip in it, read without the slip and with it."""

from slipreach.reader import role_of
from slipreach.symbols import new_symbol, symbol_sort, went_on, went_through
from slipreach.tokens import SIGNS, SORTS, is_sign, sort_of


class Trace:
    """A row of symbols with a slip in it, and where both readings are behind it."""

    def __init__(self, origin, text, first, second):
        self.origin = origin
        self.text = text
        self.first = first
        self.second = second

    def grown(self, language, symbols):
        """The trace with some more symbols behind, which are the same in both readings."""
        first = went_through(language, self.first, symbols)
        second = went_through(language, self.second, symbols)
        return Trace(self.origin, (*self.text, *symbols), first, second)


class Origin:
    """A slip in its text: all that stays when a trace grows."""

    def __init__(self, place, kind, token, unlike, fixed):
        self.context = place.context
        self.at = len(place.context.text)
        self.role = place.role
        self.owner = place.owner
        self.kind = kind
        self.token = token
        self.unlike = unlike
        self.fixed = fixed

    def used(self, text):
        """The symbols that are in use in a text and in the slip."""
        return (*text, self.token)


class Context:
    """What stands ahead of the slip in a text: symbols, and the reading behind them."""

    def __init__(self, text, reading, ahead, joint):
        self.text = text
        self.reading = reading
        self.ahead = ahead
        self.joint = joint


class Place:
    """A context and the symbol at which the slip is made."""

    def __init__(self, language, context, symbol):
        self.context = context
        self.symbol = symbol
        self.text = (*context.text, symbol)
        self.first = went_on(language, context.reading, symbol)
        self.role = role_of(symbol_sort(symbol), self.first[0])
        self.owner = len(self.first[1]) - 1


def next_symbols(language, state, used):
    """A symbol for each sort that goes on from a state."""
    sorts = [sort for sort in SORTS if language.step(state, sort) is not None]
    return [new_symbol(sort, used) for sort in sorts]


def left_trace(place):
    """The trace in which the symbol is left out."""
    origin = Origin(place, "left", None, (), {})
    return Trace(origin, place.text, place.first, place.context.reading)


def doubled_trace(language, place):
    """The trace in which the symbol stands twice."""
    origin = Origin(place, "doubled", None, (), {})
    second = went_on(language, place.first, place.symbol)
    return Trace(origin, place.text, place.first, second)


def swapped_traces(language, place):
    """The traces in which the symbol changes places with the next one."""
    traces = []
    for symbol in next_symbols(language, place.first[0], place.text):
        if symbol == place.symbol:
            continue
        alike = symbol_sort(symbol) == symbol_sort(place.symbol)
        unlike = ((place.symbol, symbol),) if alike else ()
        origin = Origin(place, "swapped", None, unlike, {})
        first = went_on(language, place.first, symbol)
        second = went_through(language, place.context.reading, (symbol, place.symbol))
        traces.append(Trace(origin, (*place.text, symbol), first, second))
    return traces


def written_origins(rule, place):
    """The origins of all ways to write another token for the symbol."""
    sort = symbol_sort(place.symbol)
    origins = []
    if is_sign(place.symbol):
        if "sign" in rule:
            origins = [Origin(place, "written", sign, (), {}) for sign in SIGNS if sign != place.symbol]
    elif sort in rule:
        token = new_symbol(sort, place.text)
        origins = [Origin(place, "written", token, ((place.symbol, token),), {})]
    for look in rule.looks:
        if is_new_look(rule, look) and fits_symbol(look[0], place.symbol):
            origins.append(look_origin(place, look))
    return origins


def is_new_look(rule, look):
    """Whether a look allows more than the words of its rule do."""
    if is_sign(look[0]) and is_sign(look[1]):
        return "sign" not in rule
    return sort_of(look[0]) != sort_of(look[1]) or sort_of(look[0]) not in rule


def fits_symbol(token, symbol):
    """Whether a token is the sign, or may stand for the symbol."""
    return sort_of(token) == symbol_sort(symbol)


def look_origin(place, look):
    """The origin of a look, with symbols fixed to its tokens."""
    old, written = look
    fixed = {} if is_sign(old) else {place.symbol: old}
    token = new_symbol(sort_of(written), place.text)
    if not is_sign(written):
        fixed[token] = written
    return Origin(place, "written", token, (), fixed)


def slip_traces(language, rule, place):
    """The traces of all slips that a rule allows at a place."""
    traces = []
    if "left" in rule:
        traces.append(left_trace(place))
    if "doubled" in rule:
        traces.append(doubled_trace(language, place))
    if "swapped" in rule:
        traces.extend(swapped_traces(language, place))
    for origin in written_origins(rule, place):
        second = went_on(language, place.context.reading, origin.token)
        traces.append(Trace(origin, place.text, place.first, second))
    return traces
