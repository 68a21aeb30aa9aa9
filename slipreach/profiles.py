"""Profiles: what matters of a row. Beside two rows with equal profiles slips have the same fates."""

from slipreach.beside import look_tokens
from slipreach.tokens import is_numeral, is_word


def list_names(schema):
    """The names of the list settings."""
    return [setting.name for setting in schema if setting.kind == "list"]


def role_of_word(sight, word):
    """What matters of a word in a file: what it calls, and what can be told of it in each setting."""
    schema = sight.house.schema
    told = [sight.told_of(setting.name, (word,) if setting.kind == "list" else word) for setting in schema]
    return str([schema.called(word), told])


def role_of_number(sight, number):
    """What matters of a number in a file."""
    return str([sight.told_of(name, number) for name in sight.house.schema.names])


def counted(roles):
    """Each of some strings with 1, or 2 if it is there more than once, ascending."""
    found = {}
    for role in roles:
        found[role] = min(2, found.get(role, 0) + 1)
    return [(role, found[role]) for role in sorted(found)]


def paired_words(sight):
    """The words of pairs that can be told apart from all others."""
    return sorted(set([word for value in sight.words if not is_word(value) for word in value.split(" ")]))


def pair_roles(sight, roles):
    """What matters of pairs: the roles of the words in them, and what can be told of each two."""
    names = list_names(sight.house.schema)
    words = sorted(paired_words(sight), key=lambda word: (roles[word], word))
    told = [sight.single_keys(names, f"{one} {other}") for one in words for other in words]
    return words, [[roles[word] for word in words], told]


def word_profile(sight, rule):
    """What matters of the row for words and lists, a string."""
    roles = {word: role_of_word(sight, word) for word in sight.singles}
    parts = [counted([roles[word] for word in sight.singles]), roles["yes"]]
    paired = []
    if sight.house.language.comma == "joins":
        paired, told = pair_roles(sight, roles)
        parts.append(told)
    for token in look_tokens(rule):
        if is_word(token):
            # A word of a look may stand in a pair, so it matters which one it is there.
            parts.append([roles[token], paired.index(token) if token in paired else -1])
    return str(parts)


def number_profile(sight, rule):
    """What matters of the row for numbers, a string."""
    told = [role_of_number(sight, int(token)) for token in look_tokens(rule) if is_numeral(token)]
    return str([counted([role_of_number(sight, number) for number in sight.numbers]), told])


def rest_profile(sight):
    """What matters of the row beside the entries of files, a string."""
    return str([sight.row_told(), [sight.default_told(name) for name in sight.house.schema.names]])
