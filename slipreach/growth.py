"""How traces grow until it is plain what a slip leads to."""

from slipreach.symbols import new_symbol, went_through
from slipreach.traces import Context, Place, Trace, next_symbols, slip_traces


def comma_ahead_of_close(language):
    """The comma that must stand behind the last item of a list, if there is one."""
    return (",",) if language.last == "must" else ()


def inner_texts(language):
    """Texts that lead into an entry: to each state, with each kind of value."""
    close = (*comma_ahead_of_close(language), "]")
    texts = [("w0",), ("w0", "="), ("w0", "=", "["), ("w0", "=", "[", "head", ",")]
    lists = [("w0", "=", "["), ("w0", "=", "[", "head", ",")]
    texts.extend([(*text, "w1") for text in lists])
    if language.comma == "joins":
        texts.extend([(*text, "w1", "w2") for text in lists])
    values = [("w0", "=", "w1"), ("w0", "=", "n0"), ("w0", "=", "[", "]"),
              ("w0", "=", "[", "head", *close)]
    texts.extend(values)
    texts.extend([(*text, ";") for text in values])
    if language.nothing:
        texts.append(("w0", "=", ";"))
    return texts


def outer_contexts(language):
    """What may stand ahead of an entry whose name slips, and is not changed by it."""
    contexts = [Context((), ("start", ()), "none", False), Context((), ("ended", ()), "some", False)]
    if language.end == "may":
        contexts.append(Context((), ("done", ()), "some", True))
    return contexts


def outer_places(language):
    """The places at names whose slips do not change what stands ahead of them."""
    return [Place(language, context, "w0") for context in outer_contexts(language)]


def inner_places(language):
    """The places inside of entries, and at a name behind a name alone."""
    places = []
    for text in inner_texts(language):
        state, entries = went_through(language, ("ended", ()), text)
        context = Context(text, (state, entries), "any", False)
        for symbol in next_symbols(language, state, text):
            # A name behind a complete value is one of the outer places.
            if state not in ("done", "ended") or symbol == ";":
                places.append(Place(language, context, symbol))
    return places


def list_ways(language, state):
    """The rows of symbols that complete a list from a state, without more words."""
    close = (*comma_ahead_of_close(language), "]", ";")
    if state == "open":
        return [("]", ";"), ("tail", *close)]
    if state == "comma":
        empty = [] if language.last == "never" else [("]", ";")]
        return [*empty, ("tail", *close)]
    return [close, (",", "tail", *close)]


def value_ways(language, used):
    """The rows of symbols that complete an entry behind its `=`."""
    lists = [("[", *way) for way in list_ways(language, "open")]
    ways = [(new_symbol("word", used), ";"), (new_symbol("number", used), ";"), *lists]
    return [*ways, (";",)] if language.nothing else ways


def complete_ways(language, state, used):
    """The rows of symbols that complete an entry from a state, in each way that matters.

    A name alone needs none: its value is that of the word yes.
    """
    if state == "ended":
        return [()]
    if state == "done":
        return [(";",)]
    if state == "name":
        return [("=", *way) for way in value_ways(language, used)]
    if state == "equals":
        return value_ways(language, used)
    ways = list_ways(language, state)
    if state == "item" and language.comma == "joins":
        word = new_symbol("word", used)
        ways = [*ways, *[(word, *way) for way in list_ways(language, "pair")]]
    return ways


def without_second(trace):
    """A trace whose slipped reading has come to nothing."""
    return Trace(trace.origin, trace.text, trace.first, None)


def completed(language, trace):
    """The traces in which the last entry is completed in each way."""
    used = trace.origin.used(trace.text)
    ways = complete_ways(language, trace.first[0], used)
    return [trace.grown(language, way) for way in ways]


class Growth:
    """The traces of a language, grown until their readings meet, end or die."""

    def __init__(self, language, ends):
        self.language = language
        self.ends = ends

    def is_dead(self, trace):
        """Whether the slipped file is not readable, whatever comes behind."""
        return trace.second is None or (trace.first[0], trace.second[0]) not in self.ends

    def children(self, trace):
        """The traces with one symbol more."""
        used = trace.origin.used(trace.text)
        symbols = next_symbols(self.language, trace.first[0], used)
        return [trace.grown(self.language, (symbol,)) for symbol in symbols]

    def at_end(self, trace):
        """What is known if the file ends here: at most one trace."""
        if not self.language.closes(trace.first[0]):
            return []
        return [trace if self.language.closes(trace.second[0]) else without_second(trace)]

    def at_entry(self, trace, child):
        """What is known if the next entry begins here, with its name in the child."""
        if self.is_dead(child):
            return [without_second(trace)]
        return [trace] if child.second[0] == "name" else []

    def ripe(self, trace):
        """All ripe traces that grow from a trace, each with the entries that stand behind."""
        rows = []
        queue = [trace]
        while queue:
            grown = queue.pop()
            if self.is_dead(grown):
                rows.extend([(row, "any") for row in completed(self.language, without_second(grown))])
                continue
            if grown.first[0] == grown.second[0]:
                rows.extend([(row, "any") for row in completed(self.language, grown)])
                continue
            rows.extend([(row, "none") for row in self.at_end(grown)])
            for child in self.children(grown):
                known = []
                if child.first[0] == "name":
                    known = self.at_entry(grown, child)
                rows.extend([(row, "some") for row in known])
                if not known:
                    queue.append(child)
        return rows


def ripe_traces(language, rule, ends):
    """All ripe traces of the slips that a rule allows, each with what stands behind."""
    growth = Growth(language, ends)
    rows = []
    for place in [*outer_places(language), *inner_places(language)]:
        for trace in slip_traces(language, rule, place):
            rows.extend(growth.ripe(trace))
    return rows
