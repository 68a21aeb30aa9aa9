"""Whether the slips of a rule reach far, and a shortest file that shows it."""

from slipreach.cases import read_or_none
from slipreach.growth import Growth
from slipreach.slips import Slip, trimmed
from slipreach.symbols import new_symbol, symbol_sort, went_through
from slipreach.tokens import LETTERS, is_sign
from slipreach.traces import Context, Place, next_symbols, slip_traces

MOST = 2


def shortest_texts(language):
    """A dict from each state that a reading can reach to a shortest text that leads there."""
    texts = {"start": ()}
    queue = ["start"]
    while queue:
        state = queue.pop(0)
        for symbol in next_symbols(language, state, texts[state]):
            following = language.step(state, symbol_sort(symbol))
            if following not in texts:
                texts[following] = (*texts[state], symbol)
                queue.append(following)
    return texts


def all_places(language):
    """The places of slips behind a shortest text to each state."""
    places = []
    texts = shortest_texts(language)
    for state in texts:
        reading = went_through(language, ("start", ()), texts[state])
        context = Context(texts[state], reading, "any", False)
        for symbol in next_symbols(language, state, texts[state]):
            places.append(Place(language, context, symbol))
    return places


def with_end(language, trace, sorts):
    """A trace with new symbols of some sorts behind."""
    for sort in sorts:
        symbol = new_symbol(sort, trace.origin.used(trace.text))
        trace = trace.grown(language, (symbol,))
    return trace


def many_entries(trace):
    """How many entries the longer one of both readings has."""
    return max(len(trace.first[1]), len(trace.second[1]))


def begun(trace, grown):
    """How many entries have begun in one of both readings while a trace has grown."""
    first = len(grown.first[1]) - len(trace.first[1])
    second = len(grown.second[1]) - len(trace.second[1])
    return max(first, second)


def closed_traces(growth, trace):
    """Whole files that grow from a trace: the shortest ones for each way in which the readings meet.

    While they are apart, entries that begin are never common to both. So it is plain that
    the slip reaches far as soon as more than two of them have begun.
    """
    rows = []
    queue = [trace]
    while queue:
        grown = queue.pop()
        if growth.is_dead(grown):
            continue
        pair = (grown.first[0], grown.second[0])
        end = growth.ends[pair]
        if pair[0] == pair[1] or begun(trace, grown) > MOST:
            rows.append(with_end(growth.language, grown, end))
            continue
        if end == ():
            rows.append(grown)
        queue.extend(growth.children(grown))
    return rows


def fresh_tokens(symbols, used):
    """A dict from symbols to tokens that are unlike each other and the used ones."""
    pairs = [f"{one}{other}" for one in LETTERS for other in LETTERS]
    words = [word for word in [*LETTERS, *pairs] if word not in used]
    numbers = [str(number) for number in range(len(symbols) + len(used)) if str(number) not in used]
    chosen = {}
    for symbol in symbols:
        row = words if symbol_sort(symbol) == "word" else numbers
        chosen[symbol] = row[len(chosen)]
    return chosen


def told(trace):
    """The file and the slip of a trace, with unlike tokens wherever this is possible."""
    origin = trace.origin
    row = [*trace.text, origin.token] if origin.kind == "written" else [*trace.text]
    free = [symbol for symbol in row if not is_sign(symbol) and symbol not in origin.fixed]
    fixed = [origin.fixed[symbol] for symbol in origin.fixed]
    chosen = fresh_tokens(list({symbol: True for symbol in free}), ["yes", *fixed])
    tokens = {**chosen, **origin.fixed}
    file = [tokens.get(symbol, symbol) for symbol in trace.text]
    return file, Slip(origin.kind, origin.at, tokens.get(origin.token, origin.token))


def shows_far(language, file, slip):
    """Whether a slip in a file changes more than two entries."""
    one, other = trimmed(read_or_none(language, file), read_or_none(language, slip(file)))
    return max(len(one), len(other)) > MOST


def length_of(trace):
    """How many tokens the file of a trace has."""
    return len(trace.text)


def far_file(language, rule, ends):
    """A shortest file and a slip that show that a rule is far, or None if it is near."""
    growth = Growth(language, ends)
    rows = []
    for place in all_places(language):
        for trace in slip_traces(language, rule, place):
            rows.extend(closed_traces(growth, trace))
    long_rows = [row for row in rows if many_entries(row) > MOST]
    for row in sorted(long_rows, key=length_of):
        file, slip = told(row)
        if shows_far(language, file, slip):
            return file, slip
    return None
