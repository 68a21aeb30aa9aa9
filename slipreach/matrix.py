"""Matrices: some houses, and how each of them relates to each other one."""

from slipreach.alike import alike
from slipreach.errors import BadHouses, NoHouse
from slipreach.pairing import Pair
from slipreach.tokens import is_one_of

MOST_HOUSES = 6
NAME_WIDTH = 13
RELATION_WIDTH = 6


class Matrix:
    """One to six houses with names."""

    def __init__(self, houses):
        if not 1 <= len(houses) <= MOST_HOUSES:
            raise BadHouses(len(houses))
        self.houses = {name: houses[name] for name in houses}
        self.names = tuple(sorted(houses))
        for at, name in enumerate(self.names):
            for other in self.names[at + 1:]:
                Pair(self.houses[name], self.houses[other])
        self.known = {}

    def check_names(self, names):
        """Raises NoHouse(name) with the first value that is no name."""
        for name in names:
            if not is_one_of(name, self.names):
                raise NoHouse(name)

    def likeness(self, name, other):
        """The Likeness of two houses. Raises NoHouse(name)."""
        self.check_names([name, other])
        if (name, other) not in self.known:
            self.known[(name, other)] = alike(self.houses[name], self.houses[other])
        return self.known[(name, other)]

    def relation(self, name, other):
        """How one house relates to another: "alike", "keeps" or "apart". Raises NoHouse(name)."""
        found = self.likeness(name, other)
        if found.word == "alike":
            return "alike"
        return "keeps" if found.keeps else "apart"

    def classes(self):
        """The names, put together if their houses are alike."""
        rows = []
        for name in self.names:
            same = [row for row in rows if self.relation(row[0], name) == "alike"]
            rows = [(*row, name) if row in same else row for row in rows]
            if not same:
                rows.append((name,))
        return rows

    def is_leading(self, firsts, one, other):
        """Whether one class keeps to another one, with none between them."""
        if self.relation(one, other) != "keeps":
            return False
        between = [name for name in firsts if name not in (one, other)]
        return not any([self.relation(one, name) == "keeps" and self.relation(name, other) == "keeps"
                        for name in between])

    def leads(self):
        """Tuples (one, other) of the first names of two classes of which the one leads to the other."""
        firsts = [row[0] for row in self.classes()]
        return [(one, other) for one in firsts for other in firsts if self.is_leading(firsts, one, other)]

    def broken(self, names):
        """The index of the first name whose relation to the next one is "apart", or None."""
        self.check_names(names)
        for at, (name, other) in enumerate(zip(names, names[1:])):
            if self.relation(name, other) == "apart":
                return at
        return None

    def all_keeping(self):
        """The names to which the relation of every name is "alike" or "keeps"."""
        return tuple([name for name in self.names
                      if all([self.relation(other, name) != "apart" for other in self.names])])

    def page(self):
        """One line for each name, with its relation to each name."""
        return [name.ljust(NAME_WIDTH) + "".join([self.relation(name, other).rjust(RELATION_WIDTH)
                                                  for other in self.names]) for name in self.names]
