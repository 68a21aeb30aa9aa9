"""Reading files: states, entries, spans and roles."""

from slipreach.errors import Unreadable
from slipreach.tokens import sort_of

ROLES = {"=": "equals", ",": "comma", "[": "open", "]": "close", ";": "end"}


def states(language, file):
    """The states of a reading, start first. Raises Unreadable(at, awaited)."""
    way = ["start"]
    state = "start"
    for at, thing in enumerate(file):
        following = language.step(state, sort_of(thing))
        if following is None:
            raise Unreadable(at, language.next_sorts(state))
        state = following
        way.append(state)
    if not language.closes(state):
        raise Unreadable(len(file), language.next_sorts(state))
    return way


def spans_of(way):
    """The spans of the entries, from the states of a reading."""
    # Only a word that begins an entry leads to the state name.
    firsts = [at for at, state in enumerate(way[1:]) if state == "name"]
    return list(zip(firsts, [*firsts[1:], len(way) - 1]))


def value_of(file, way, first, behind):
    """The value of the entry whose span is given."""
    value = "yes"
    members = []
    for at in range(first + 1, behind):
        token = file[at]
        after = way[at + 1]
        if after == "equals":
            value = None
        elif after == "item":
            members.append(token)
        elif after == "pair":
            members[-1] = f"{members[-1]} {token}"
        elif after == "done":
            value = single_value(token, members)
    return value


def single_value(token, members):
    """The value that is complete with a token."""
    if token == "]":
        return tuple(members)
    if sort_of(token) == "number":
        return int(token)
    return token


def role_of(sort, after):
    """The role of a token of some sort behind which a reading is in a state."""
    if sort in ROLES:
        return ROLES[sort]
    if sort == "number":
        return "number"
    if after == "name":
        return "name"
    return "word" if after == "done" else "item"


def entries_by(file, way):
    """The entries of a file, from the states of its reading."""
    return [(file[first], value_of(file, way, first, behind)) for first, behind in spans_of(way)]


def read(language, file):
    """The entries of a file. Raises Unreadable."""
    return entries_by(file, states(language, file))


def spans(language, file):
    """For each entry the indexes of its first token and of the place behind its last one."""
    return spans_of(states(language, file))


def roles(language, file):
    """The role of each token of a file. Raises Unreadable."""
    way = states(language, file)
    return [role_of(sort_of(token), way[at + 1]) for at, token in enumerate(file)]
