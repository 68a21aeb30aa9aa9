"""Papers: whether some guards are good for a house, and what shows that they are not."""

from slipreach.errors import BadGuard, BadOld
from slipreach.fates import silent_example
from slipreach.guards import fits, guarded
from slipreach.house import copied_files
from slipreach.leastsets import good_sets, least_good, spoiled, turns
from slipreach.oldfiles import kept_fault
from slipreach.playing import tried
from slipreach.reach import reach


class Paper:
    """Whether some guards are good: "good", "lost", "far" or "silent", and what shows it."""

    def __init__(self, word, *, index=None, file=None, slip=None, example=None):
        self.word = word
        self.index = index
        self.file = file
        self.slip = slip
        self.example = example


def check_pool(house, pool):
    """Raises BadGuard(index) for the first value that does not fit or equals an earlier one."""
    for index, guard in enumerate(pool):
        if not fits(house, guard) or guard in pool[:index]:
            raise BadGuard(index)


def check_olds(house, olds):
    """Raises BadFiles, or BadOld(index) for the first files that a house does not take."""
    for index, files in enumerate(olds):
        if tried(house, files)[0] is None:
            raise BadOld(index)


def paper_of(house, rule, olds, goal, guards):
    """The Paper of some guards for a house."""
    strict = guarded(house, guards)
    index = kept_fault(house, strict, olds)
    if index is not None:
        return Paper("lost", index=index)
    far = reach(strict.language, rule)
    if far.word == "far":
        return Paper("far", file=far.file, slip=far.slip)
    example = silent_example(strict, rule, goal)
    return Paper("good") if example is None else Paper("silent", example=example)


class Study:
    """A house, a rule, old files and a goal, and the guards that may be good for them."""

    def __init__(self, house, rule, pool, *, olds=(), goal="any"):
        check_pool(house, pool)
        check_olds(house, olds)
        self.house = house
        self.rule = rule
        self.goal = goal
        self.pool = tuple(pool)
        self.olds = [copied_files(files) for files in olds]
        self.known = {}

    def paper(self, guards):
        """The Paper of some guards of the pool. Raises BadGuard(index), TooManyConducts(60)."""
        for index, guard in enumerate(guards):
            if guard not in self.pool or guard in guards[:index]:
                raise BadGuard(index)
        return paper_of(self.house, self.rule, self.olds, self.goal, guards)

    def is_good(self, guards):
        """Whether some guards of the pool are good. Raises as paper."""
        key = tuple([guard for guard in self.pool if guard in guards])
        # Guards that are not of the pool, or are repeated, are an error each time.
        if key not in self.known or len(key) != len(guards):
            self.known[key] = self.paper(guards).word == "good"
        return self.known[key]

    def least_sets(self):
        """All least sets of the pool."""
        return least_good(self.pool, lambda guards: self.is_good(guards))

    def good_sets(self):
        """All good sets of the pool."""
        return good_sets(self.pool, lambda guards: self.is_good(guards))

    def spoiled(self):
        """All tuples (good set, a guard that spoils it)."""
        return spoiled(self.pool, lambda guards: self.is_good(guards))

    def turns(self):
        """The greatest number of turns, and the first order that has it."""
        return turns(self.pool, lambda guards: self.is_good(guards))
