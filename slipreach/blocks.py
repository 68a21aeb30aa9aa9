"""Builder texts: the steps of their lines, one in the block of another."""

from slipreach.errors import BadBuilder
from slipreach.lines import Reading, split_line

MOST_LINES = 30
MOST_BLOCKS = 4
MOST_LOOPS = 2
MOST_WORDS = 4
MOST_NUMBERS = 3


class Step:
    """One line. What is told of it depends on its word:

    "and" and "or": (is guarded, is negated, test); "if": (is negated, question);
    "for": (name, number of the `for` among those over this setting); otherwise ().
    """

    def __init__(self, line, word, told):
        self.line = line
        self.word = word
        self.told = told
        self.block = []
        self.otherwise = []

    def things(self):
        """The word values and numbers that are written in the line."""
        if self.word in ("and", "or") and len(self.told[2]) > 1 and self.told[2][2] == "told":
            return [self.told[2][3]]
        if self.word == "if" and self.told[1][0] in ("item", "setting"):
            return [self.told[1][-1]]
        return []

    def settings_named(self):
        """The names of the settings that stand in the line."""
        if self.word == "for":
            return [self.told[0]]
        if self.word == "if":
            return [self.told[1][1]] if self.told[1][0] in ("given", "some", "setting") else []
        if self.word in ("and", "or") and len(self.told[2]) > 1 and self.told[2][2] == "setting":
            return [self.told[2][3]]
        return []


class Blocks:
    """All steps so far, and the blocks that are open behind them."""

    def __init__(self, table, kinds):
        self.table = table
        self.kinds = kinds
        self.steps = []
        self.rows = []
        self.opened = []
        self.is_awaited = False
        self.is_ended = False

    def is_in_loop(self, depth):
        """Whether a line with so many blocks around it stands inside of a `for`."""
        return "for" in [word for word, _ in self.opened[:depth]]

    def may_stand(self, depth):
        """Whether a line may have so many blocks around it."""
        if self.is_ended or len(self.steps) >= MOST_LINES or depth > MOST_BLOCKS:
            return False
        return depth == len(self.opened) if self.is_awaited else depth <= len(self.opened)

    def test_told(self, parts, reading):
        """What is told of a line with a test, or None."""
        is_guarded = parts[0] == "guard"
        parts = parts[1:] if is_guarded else parts
        if not parts or parts[0] not in ("and", "or"):
            return None
        is_negated = parts[1:2] == ["not"]
        asked = reading.test_in(parts[2:] if is_negated else parts[1:])
        return None if asked is None else (parts[0], (is_guarded, is_negated, asked))

    def question_told(self, parts, reading):
        """What is told of an `if`, or None."""
        is_negated = parts[1:2] == ["no"]
        question = reading.question_in(parts[2:] if is_negated else parts[1:])
        return None if question is None else ("if", (is_negated, question))

    def loop_told(self, parts, reading):
        """What is told of a `for`, or None."""
        name = reading.setting_of_kind(parts[1], "list") if len(parts) == 2 else None
        loops = [step.told[0] for step in self.steps if step.word == "for"]
        if name is None or len(loops) == MOST_LOOPS:
            return None
        return ("for", (name, loops.count(name)))

    def single_told(self, parts, depth):
        """What is told of a line of one word, or None."""
        word = parts[0]
        if len(parts) > 1 or word not in ("not", "clear", "refuse", "break", "skip", "else", "take"):
            return None
        if word in ("break", "skip") and not self.is_in_loop(depth):
            return None
        if word == "take" and depth > 0:
            return None
        # The block that this line ends must be that of an `if`.
        if word == "else" and [row[0] for row in self.opened[depth:depth + 1]] != ["if"]:
            return None
        return (word, ())

    def said(self, depth, parts):
        """The word of a line and what is told of it, or None if it is wrong."""
        reading = Reading(self.table, self.kinds, self.is_in_loop(depth))
        if parts[0] in ("and", "or", "guard"):
            return self.test_told(parts, reading)
        if parts[0] == "if":
            return self.question_told(parts, reading)
        if parts[0] == "for":
            return self.loop_told(parts, reading)
        return self.single_told(parts, depth)

    def things(self):
        """The word values, and the numbers, that are written in the lines so far, each once."""
        found = [thing for step in self.steps for thing in step.things()]
        words = sorted(set([thing for thing in found if isinstance(thing, str)]))
        numbers = sorted(set([thing for thing in found if isinstance(thing, int)]))
        return words, numbers

    def put(self, depth, step):
        """Takes one more step, with so many blocks around it."""
        closed = self.opened[depth:depth + 1]
        self.opened = self.opened[:depth]
        if step.word == "else":
            self.opened = [*self.opened, ("else", closed[0][1])]
        else:
            self.row_of_last_block().append(step)
            if step.word in ("if", "for"):
                self.opened = [*self.opened, (step.word, step)]
        self.steps = [*self.steps, step]
        self.is_awaited = step.word in ("if", "else", "for")
        self.is_ended = step.word == "take"

    def row_of_last_block(self):
        """The steps of the innermost open block."""
        if not self.opened:
            return self.rows
        word, step = self.opened[-1]
        return step.otherwise if word == "else" else step.block

    def read_line(self, text):
        """Takes one more line. Returns whether it is right."""
        split = split_line(text)
        if split is None or not self.may_stand(split[0]):
            return False
        found = self.said(split[0], split[1])
        if found is None:
            return False
        self.put(split[0], Step(len(self.steps), found[0], found[1]))
        words, numbers = self.things()
        return len(words) <= MOST_WORDS and len(numbers) <= MOST_NUMBERS


def blocks_of(text, table, kinds):
    """The Blocks of a builder text. Raises BadBuilder(line)."""
    if not isinstance(text, str):
        raise BadBuilder(-1)
    blocks = Blocks(table, kinds)
    lines = text.split("\n")
    for line, row in enumerate(lines):
        if not blocks.read_line(row):
            raise BadBuilder(line)
    if not blocks.is_ended:
        raise BadBuilder(len(lines))
    return blocks
