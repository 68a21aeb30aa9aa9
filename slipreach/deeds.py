"""Deeds: what is done to the rows of a store, and trials in which it can be taken back."""

from slipreach.errors import BadColumn, BadRows, TooManyRows, WrongTable
from slipreach.rowkinds import is_worth


class Deed:
    """A deed that leaves each row as it is."""

    def __init__(self, condition):
        self.table = condition.table
        # What the caller changes in the condition later on does not matter to the deed.
        self.condition = condition & None

    def takes(self, row):
        """Whether the deed takes a row."""
        return self.condition.takes(row)

    def becomes(self, row):
        """What becomes of a row: a new dict, or None."""
        return dict(row)


class Delete(Deed):
    """A deed that removes the rows that it takes."""

    def __init__(self, condition):
        super().__init__(condition)

    def becomes(self, row):
        """None for a row that it takes, otherwise the row, a new dict."""
        return None if self.takes(row) else dict(row)


class Change(Deed):
    """A deed that gives the rows that it takes new values in some columns."""

    def __init__(self, condition, changes):
        super().__init__(condition)
        for name in sorted(changes):
            if name not in self.table.columns or not is_worth(self.table, name, changes[name]):
                raise BadColumn(name)
        self.changes = dict(changes)

    def becomes(self, row):
        """What becomes of a row, a new dict."""
        return {**row, **self.changes} if self.takes(row) else dict(row)


def check_many(count, most):
    """Raises TooManyRows(count, most) if there is a bound and a number of rows is above it."""
    if most is not None and count > most:
        raise TooManyRows(count, most)


class Store:
    """A table and its rows, of which some may be equal."""

    def __init__(self, table, rows):
        for at, row in enumerate(rows):
            if row not in table:
                raise BadRows(at)
        self.table = table
        self.rows = [dict(row) for row in rows]

    def __len__(self):
        return len(self.rows)

    def __contains__(self, x):
        return x in self.table and x in self.rows

    def listed(self):
        """The rows in order, each a new dict."""
        return [dict(row) for row in self.rows]

    def counted(self, condition):
        """How many rows a condition takes. Raises WrongTable()."""
        if condition.table != self.table:
            raise WrongTable()
        return len([row for row in self.rows if condition.takes(row)])

    def taken(self, deed):
        """The rows that a deed takes, each a new dict. Raises WrongTable()."""
        if deed.table != self.table:
            raise WrongTable()
        return [dict(row) for row in self.rows if deed.takes(row)]

    def do(self, deed, *, most=None):
        """Does a deed; the rows that it took, as they were. Raises WrongTable, TooManyRows."""
        taken = self.taken(deed)
        check_many(len(taken), most)
        # The rows are replaced as a whole: a trial may keep the list that was there before.
        news = [deed.becomes(row) if deed.takes(row) else row for row in self.rows]
        self.rows = [row for row in news if row is not None]
        return taken


class Shelf:
    """Takes the rows that a trial does not have to put back."""

    def __init__(self):
        self.rows = []


class Trial:
    """Deeds that are taken back if an error leaves the block, or in any case if it is tried."""

    def __init__(self, store, most=None, *, tried=False):
        self.store = store
        self.most = most
        self.count = 0
        self.before = store.rows
        self.undone = store if tried else Shelf()

    def __enter__(self):
        self.before = self.store.rows
        return self

    def __exit__(self, kind, value, trace):
        self.undone.rows = self.before
        if kind is not None:
            self.store.rows = self.before

    def do(self, deed):
        """Does a deed; the rows that it took, as they were. Raises WrongTable, TooManyRows."""
        count = self.count + len(self.store.taken(deed))
        check_many(count, self.most)
        taken = self.store.do(deed)
        self.count = count
        return taken


def attempt(store, deeds, *, most=None):
    """Does some deeds in one trial; the rows that each one took. Raises as Trial.do."""
    with Trial(store, most) as trial:
        return [trial.do(deed) for deed in deeds]


def preview_count(store, deeds, *, most=None):
    """How many rows each deed takes, in a trial that is tried. Raises as Trial.do."""
    with Trial(store, most, tried=True) as trial:
        return [len(trial.do(deed)) for deed in deeds]


def attempted(store, step, *, most=None, tried=False):
    """What a function returns that is called with a trial. Its error goes on."""
    with Trial(store, most, tried=tried) as trial:
        return step(trial)
