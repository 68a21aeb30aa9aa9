"""Leading files over: the files of an elder schema become files of a later one."""

from slipreach.checking import checked
from slipreach.editions import led_value
from slipreach.layers import joined
from slipreach.moves import knows
from slipreach.reader import read, spans
from slipreach.tokens import is_word
from slipreach.whys import why
from slipreach.writer import list_tokens, plain


class Lead:
    """The led files, what is written down in them, and what each entry became."""

    def __init__(self, files, written, traces):
        self.files = files
        self.written = written
        self.traces = traces


def written_down(edition, checks):
    """The later names, each with its value, whose old default has to be written down: a list."""
    rows = []
    for setting in edition.later:
        source = edition.source(setting.name)
        if source is not None and why(edition.elder, checks, source) == ("default",):
            default = edition.elder.setting(source).default
            value = led_value(default, edition.is_wrapped(setting.name))
            if value != setting.default:
                rows.append((setting.name, value))
    return rows


def parted_tail(part):
    """The tokens of an entry without the signs ";" at its end, and these signs."""
    count = len(part)
    while part[count - 1] == ";":
        count -= 1
    return part[:count], part[count:]


class Leading:
    """How the entries of one file are led over."""

    def __init__(self, language, edition, written, check):
        self.language = language
        self.edition = edition
        self.written = written
        self.check = check

    def targets_of(self, number, name):
        """The later names for which an entry of an elder name gets an entry."""
        targets = [target for target in self.edition.targets(name) if target not in self.written]
        if self.edition.elder.doubled != "join" or number == self.check.entries_of(name)[-1]:
            return targets
        # What stands behind a list is put behind it, but a single word takes the place of another.
        return [target for target in targets if not self.edition.is_wrapped(target)]

    def wrapped_tokens(self, name, core, value):
        """The tokens behind the name of an entry whose setting becomes a list."""
        if isinstance(value, tuple):
            return [*core[1:core.index("[")], "0"]
        if not is_word(value) or not self.edition.elder.fits(name, value):
            return core[1:]
        between = ["="] if len(core) == 1 else core[1:-1]
        return [*between, *list_tokens(self.language, (value,), [","])]

    def led_core(self, name, target, core, value):
        """The tokens, without the tail, of the entry of a target."""
        word = core[0] if self.edition.later.called(core[0]) == target else target
        if self.edition.is_wrapped(target):
            return [word, *self.wrapped_tokens(name, core, value)]
        return [word, *core[1:]]

    def led_parts(self, number, part):
        """The rows of tokens, one for each entry, that an entry becomes."""
        word, value = self.check.entries[number]
        name = self.edition.elder.called(word)
        if name is None:
            return [] if knows(self.edition.later, word) else [part]
        core, tail = parted_tail(part)
        cores = [self.led_core(name, target, core, value) for target in self.targets_of(number, name)]
        if not cores:
            return []
        return [*[[*row, ";"] for row in cores[:-1]], [*cores[-1], *tail]]


def led_file(leading, file):
    """The led file of one layer, and the trace of each of its entries."""
    tokens = []
    traces = []
    count = 0
    for number, (first, behind) in enumerate(spans(leading.language, file)):
        parts = leading.led_parts(number, list(file[first:behind]))
        for part in parts:
            tokens.extend(part)
        traces.append(tuple([count + at for at in range(len(parts))]))
        count += len(parts)
    return tokens, traces


def with_entries(language, file, entries):
    """A file, or none, with more entries written plainly behind it."""
    if not entries:
        return file
    tokens = [] if file is None else file
    between = [";"] if tokens and tokens[-1] != ";" else []
    return [*tokens, *between, *plain(language, entries)]


def lead(language, edition, files):
    """The Lead of the files of all layers. Raises as reading, checking and joining do."""
    rows = [None if file is None else read(language, file) for file in files]
    checks = [None if row is None else checked(edition.elder, row) for row in rows]
    joined(edition.elder, checks)
    entries = written_down(edition, checks)
    names = tuple([name for name, _ in entries])
    led = []
    for file, check in zip(files, checks):
        leading = Leading(language, edition, names, check)
        led.append((None, None) if file is None else led_file(leading, file))
    news = [file for file, _ in led]
    news[0] = with_entries(language, news[0], entries)
    return Lead(news, names, [traces for _, traces in led])
