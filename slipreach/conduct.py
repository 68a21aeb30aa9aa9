"""Conducts: what a builder can see of a list beside a row."""


def start_index(start):
    """The place of a working value among None, True and False."""
    if start is None:
        return 0
    return 1 if start else 2


def put_behind(results, others, start):
    """The result of two lists behind one another, from a start."""
    working, end = results[start_index(start)]
    return others[start_index(working)] if end == "through" else (working, end)


class Conduct:
    """Whether a list is empty, the columns that it meets, and the results of each `for` over it.

    The meetings are a tuple of (column, whether it is met). The results are a tuple with a tuple
    for each `for`: what comes of None, of True and of False.
    """

    def __init__(self, is_empty, meetings, results):
        self.is_empty = is_empty
        self.meetings = meetings
        self.results = results
        self.key = (is_empty, meetings, results)

    def meets(self, column):
        """Whether some item is equal to a column; None without such a test."""
        for name, is_met in self.meetings:
            if name == column:
                return is_met
        return None

    def result(self, number, start):
        """The working value and the end behind a `for`, from a working value."""
        return self.results[number][start_index(start)]

    def __add__(self, other):
        meetings = [(name, is_met or other.meets(name)) for name, is_met in self.meetings]
        results = [tuple([put_behind(one, two, start) for start in (None, True, False)])
                   for one, two in zip(self.results, other.results)]
        return Conduct(self.is_empty and other.is_empty, tuple(meetings), tuple(results))

    def __eq__(self, other):
        return isinstance(other, Conduct) and self.key == other.key
