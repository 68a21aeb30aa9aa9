"""Courses: how the lines of a builder text are executed, one after another."""

from slipreach.conduct import Conduct
from slipreach.working import both, either, holds, inverse


class RowSide:
    """Working values beside a row: True and False."""

    def __init__(self, row):
        self.row = row

    def constant(self, truth):
        """The working value that is the same beside every row."""
        return truth

    def tested(self, column, sign, wanted):
        """The working value of a test."""
        if isinstance(wanted, Conduct):
            return wanted.meets(column)
        return holds(sign, self.row[column], wanted)

    def both(self, one, other):
        """The `&` of two working values."""
        return both(one, other)

    def either(self, one, other):
        """The `|` of two working values."""
        return either(one, other)

    def inverse(self, one):
        """The `~` of a working value."""
        return inverse(one)


class NoSide:
    """Working values beside no row: True stands for all that is not blank."""

    def constant(self, truth):
        """The working value that is the same beside every row."""
        return True

    def tested(self, column, sign, wanted):
        """The working value of a test."""
        return True

    def both(self, one, other):
        """The `&` of two working values."""
        return either(one, other)

    def either(self, one, other):
        """The `|` of two working values."""
        return either(one, other)

    def inverse(self, one):
        """The `~` of a working value."""
        return one


class Course:
    """The execution of steps: the working value, the item of the `for`, and the lines so far."""

    def __init__(self, side, values, working=None):
        self.side = side
        self.known = values
        self.working = working
        self.item = None
        self.lines = []

    def went(self, steps):
        """Executes some steps. Returns "through", or the word of the line that ended them."""
        for step in steps:
            self.lines.append(step.line)
            end = self.went_by(step)
            if end != "through":
                return end
        return "through"

    def went_by(self, step):
        """Executes one step. Returns "through", or the word of the line that ended it."""
        if step.word in ("and", "or"):
            self.put_together(step)
        elif step.word == "not":
            self.working = self.side.inverse(self.working)
        elif step.word == "clear":
            self.working = None
        elif step.word == "if":
            return self.went(step.block if self.is_so(step) else step.otherwise)
        elif step.word == "for":
            return self.went_over(step)
        else:
            return step.word
        return "through"

    def put_together(self, step):
        """Puts the working value and a test together."""
        is_guarded, is_negated, asked = step.told
        worth = self.worth_of(asked)
        if is_negated:
            worth = self.side.inverse(worth)
        if worth is None and is_guarded:
            worth = self.side.constant(False)
        if step.word == "and":
            self.working = self.side.both(self.working, worth)
        else:
            self.working = self.side.either(self.working, worth)

    def worth_of(self, asked):
        """The working value of a test; None with a lacking setting."""
        if len(asked) == 1:
            return self.side.constant(asked[0] == "every")
        column, sign, source, thing = asked
        if source == "item":
            thing = self.item
        elif source == "setting":
            if thing not in self.known:
                return None
            thing = self.known[thing]
        return self.side.tested(column, sign, thing)

    def is_so(self, step):
        """Whether the question of an `if` holds."""
        is_negated, question = step.told
        return self.answer(question) != is_negated

    def answer(self, question):
        """Whether a question, without its `no`, holds."""
        word = question[0]
        if word == "blank":
            return self.working is None
        if word == "item":
            return self.item == question[1]
        name = question[1]
        if name not in self.known:
            return False
        if word == "given":
            return True
        if word == "some":
            return not is_empty_list(self.known[name])
        return holds(question[2], self.known[name], question[3])

    def went_over(self, step):
        """Executes a `for`."""
        name, number = step.told
        if name not in self.known:
            return "through"
        things = self.known[name]
        if isinstance(things, Conduct):
            self.working, end = things.result(number, self.working)
        else:
            end = self.went_through_items(step, things)
        return end if end == "refuse" else "through"

    def went_through_items(self, step, things):
        """Executes the block of a `for` for each item. Returns "through", "break" or "refuse"."""
        for thing in things:
            self.item = thing
            end = self.went(step.block)
            if end in ("break", "refuse"):
                return end
        return "through"


def is_empty_list(thing):
    """Whether a list, or the one that a conduct stands for, is empty."""
    return thing.is_empty if isinstance(thing, Conduct) else len(thing) == 0
