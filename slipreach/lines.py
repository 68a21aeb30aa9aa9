"""The lines of a builder text, one by one: their tokens, tests and questions.

A test is ("every",), ("none",) or (column, sign, source, thing), and a question is ("blank",),
("given", name), ("some", name), ("item", thing) or ("setting", name, sign, thing). The source is
"told" (the thing is a word value or a number), "setting" (the thing is its name) or "item".
"""

from slipreach.tokens import is_numeral, is_pair, is_word

SIGNS = ("is", "below", "least")
MOST_DIGITS = 9


def split_line(text):
    """How many blocks stand around a line, and its tokens, or None if its blanks are wrong."""
    inner = text.lstrip(" ")
    blanks = len(text) - len(inner)
    parts = inner.split(" ")
    if blanks & 1 or "" in parts:
        return None
    return blanks // 2, parts


def quoted(token):
    """The word value in quotes that a token is, or None."""
    if token[0] != "'" or token[-1] != "'":
        return None
    inner = token[1:-1]
    value = inner.replace("_", " ")
    return value if is_word(inner) or is_pair(value) else None


def written_number(token):
    """The number that a token is, or None."""
    return int(token) if is_numeral(token) and len(token) <= MOST_DIGITS else None


class Reading:
    """What the tokens of one line may refer to."""

    def __init__(self, table, kinds, is_inside):
        self.table = table
        self.kinds = kinds
        self.is_inside = is_inside

    def setting_in(self, token):
        """The name of the setting that a token is, or None. None stands inside of a `for`."""
        if self.is_inside or not token.startswith("@") or token[1:] not in self.kinds:
            return None
        return token[1:]

    def setting_of_kind(self, token, kind):
        """The name of the setting of a kind that a token is, or None."""
        name = self.setting_in(token)
        return name if name is not None and self.kinds[name] == kind else None

    def word_operand(self, token):
        """The source and the thing with which a column of words is compared, or None."""
        if token == "item" and self.is_inside:
            return ("item", None)
        name = self.setting_of_kind(token, "word")
        if name is not None:
            return ("setting", name)
        value = quoted(token)
        return None if value is None else ("told", value)

    def number_operand(self, token):
        """The source and the thing with which a column of numbers is compared, or None."""
        name = self.setting_of_kind(token, "number")
        if name is not None:
            return ("setting", name)
        number = written_number(token)
        return None if number is None else ("told", number)

    def operand(self, column, sign, token):
        """The source and the thing of a test of a column, or None."""
        if column in self.table.numbers:
            return self.number_operand(token) if sign in SIGNS else None
        if column not in self.table.words:
            return None
        if sign == "in":
            name = self.setting_of_kind(token, "list")
            return None if name is None else ("setting", name)
        return self.word_operand(token) if sign == "is" else None

    def test_in(self, parts):
        """The test that some tokens are, or None."""
        if parts in (["every"], ["none"]):
            return (parts[0],)
        if len(parts) != 3:
            return None
        operand = self.operand(parts[0], parts[1], parts[2])
        return None if operand is None else (parts[0], parts[1], *operand)

    def question_in(self, parts):
        """The question, without `no`, that some tokens are, or None."""
        if parts == ["blank"]:
            return ("blank",)
        if len(parts) == 2:
            return self.short_question(parts[0], parts[1])
        if len(parts) == 3:
            return self.comparison(parts[0], parts[1], parts[2])
        return None

    def short_question(self, word, token):
        """The question whether a setting is given, or a list has items, or None."""
        name = self.setting_in(token)
        if name is None:
            return None
        if word == "given" or (word == "some" and self.kinds[name] == "list"):
            return (word, name)
        return None

    def comparison(self, subject, sign, token):
        """The question that compares the item or a setting, or None."""
        if subject == "item" and self.is_inside and sign == "is":
            value = quoted(token)
            return None if value is None else ("item", value)
        name = self.setting_in(subject)
        if name is None:
            return None
        thing = None
        if self.kinds[name] == "word" and sign == "is":
            thing = quoted(token)
        elif self.kinds[name] == "number" and sign in SIGNS:
            thing = written_number(token)
        return None if thing is None else ("setting", name, sign, thing)
