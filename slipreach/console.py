"""Consoles: files that are put, deeds that are done to a store, and both taken back."""

from slipreach.conditions import Condition
from slipreach.deeds import Change, Delete, Store
from slipreach.errors import BadLayer, Blocked
from slipreach.house import copied_files
from slipreach.playing import check_place, slipped, tried
from slipreach.previews import preview_of
from slipreach.tokens import is_integer


class Sheet:
    """The files of all layers, and what the house makes of them."""

    def __init__(self, house, files):
        self.house = house
        self.files = copied_files(files)
        self.plan, self.stage, self.error = tried(house, self.files)

    def with_file(self, layer, file):
        """The sheet with another file in a layer."""
        return Sheet(self.house, [file if at == layer else one for at, one in enumerate(self.files)])


class Moment:
    """What a console has at one time: a sheet and rows."""

    def __init__(self, sheet, rows):
        self.sheet = sheet
        self.rows = rows


class Step:
    """A file that was put or a deed that was done: its line, and what there was before and behind it."""

    def __init__(self, line, before, behind):
        self.line = line
        self.before = before
        self.behind = behind


class Console:
    """A house, a store, and a file or none for each layer."""

    def __init__(self, house, rows, *, changes=None):
        self.house = house
        self.store = Store(house.builder.table, rows)
        self.changes = None if changes is None else dict(changes)
        self.deed_for(Condition(house.builder.table))
        self.sheet = Sheet(house, [None for _ in range(house.layers)])
        self.blocked_by = self.sheet.stage
        # Both lists are replaced as a whole, never changed: a Holding keeps what was there before.
        self.steps_done = []
        self.steps_undone = []

    def __iter__(self):
        raise TypeError("a console is not iterated over")

    def __len__(self):
        return len(self.store)

    def __getitem__(self, at):
        self.check_layer(at)
        file = self.sheet.files[at]
        return None if file is None else list(file)

    def __setitem__(self, at, worth):
        self.put(at, worth)

    def check_layer(self, layer):
        """Raises BadLayer(layer) for any value that is no number of a layer."""
        if not is_integer(layer) or not 0 <= layer < self.house.layers:
            raise BadLayer(layer)

    def deed_for(self, condition):
        """The deed of the console with a condition. Raises BadColumn(name)."""
        return Delete(condition) if self.changes is None else Change(condition, self.changes)

    def now(self):
        """What the console has."""
        return Moment(self.sheet, self.store.rows)

    def go_to(self, there):
        """Gives the console what it had, or will have, at another time."""
        self.sheet = there.sheet
        self.store.rows = there.rows
        self.blocked_by = there.sheet.stage

    def note(self, line, before):
        """Takes a new step; the undone ones are dropped."""
        self.steps_done = [*self.steps_done, Step(line, before, self.now())]
        self.steps_undone = []

    def put(self, layer, file):
        """Puts a file, or None, in a layer. Raises BadLayer(layer)."""
        self.check_layer(layer)
        before = self.now()
        self.sheet = self.sheet.with_file(layer, file)
        self.blocked_by = self.sheet.stage
        self.note(f"put {layer}", before)

    def check_ready(self):
        """Raises Blocked(stage, error) if the house does not take the files."""
        if self.sheet.plan is None:
            raise Blocked(self.sheet.stage, self.sheet.error)

    def planned(self):
        """The Plan of the files. Raises Blocked(stage, error)."""
        self.check_ready()
        return self.house.run(self.sheet.files)

    def taken_by(self, plan):
        """The rows that the deed would take with the condition of a plan."""
        return self.store.taken(self.deed_for(plan.condition))

    def show(self):
        """The lines of all names and the number of rows that the deed would take, or the error."""
        if self.sheet.plan is None:
            return [f"refused by {self.sheet.stage}: {self.sheet.error}"]
        preview = preview_of(self.house, self.house.schema.names)
        return [*preview(self.sheet.plan), f"takes {len(self.taken_by(self.sheet.plan))} of {len(self.store)}"]

    def listed(self):
        """The rows of the store, each a new dict."""
        return self.store.listed()

    def do(self, *, most=None):
        """Does the deed; the rows that it took. Raises Blocked(stage, error), TooManyRows(count, most)."""
        self.check_ready()
        before = self.now()
        taken = self.store.do(self.deed_for(self.sheet.plan.condition), most=most)
        self.note(f"do {len(taken)}", before)
        return taken

    def undo(self):
        """Undoes the last step; whether there was one."""
        if not self.steps_done:
            return False
        step = self.steps_done[-1]
        self.go_to(step.before)
        self.steps_done = self.steps_done[:-1]
        self.steps_undone = [*self.steps_undone, step]
        return True

    def redo(self):
        """Does the step again that was undone last; whether there was one."""
        if not self.steps_undone:
            return False
        step = self.steps_undone[-1]
        self.go_to(step.behind)
        self.steps_undone = self.steps_undone[:-1]
        self.steps_done = [*self.steps_done, step]
        return True

    def history(self):
        """One line for each step that is not undone."""
        return [step.line for step in self.steps_done]

    def try_file(self, layer, file):
        """What would be if a file were put: the stage or None, and the rows taken. Raises BadLayer."""
        self.check_layer(layer)
        sheet = self.sheet.with_file(layer, file)
        return (None, self.taken_by(sheet.plan)) if sheet.stage is None else (sheet.stage, [])

    def try_slip(self, layer, slip):
        """The stage or None, and the rows taken with a slip alone, and without it alone.

        Raises Blocked(stage, error), BadLayer(layer), BadSlip(at).
        """
        self.check_ready()
        files = self.sheet.files
        check_place(self.house, files, layer, slip)
        sheet = Sheet(self.house, slipped(files, layer, slip))
        if sheet.stage is not None:
            return (sheet.stage, [], [])
        before = self.deed_for(self.sheet.plan.condition)
        behind = self.deed_for(sheet.plan.condition)
        rows = self.store.listed()
        more = [row for row in rows if behind.takes(row) and not before.takes(row)]
        return (None, more, [row for row in rows if before.takes(row) and not behind.takes(row)])


class Holding:
    """A block in which all that is done to a console is taken back at its end."""

    def __init__(self, console):
        self.console = console
        self.sheet = console.sheet
        self.rows = console.store.rows
        self.steps_done = console.steps_done
        self.steps_undone = console.steps_undone
        self.blocked_by = console.blocked_by

    def __enter__(self):
        self.sheet = self.console.sheet
        self.rows = self.console.store.rows
        self.steps_done = self.console.steps_done
        self.steps_undone = self.console.steps_undone
        self.blocked_by = self.console.blocked_by
        return self.console

    def __exit__(self, kind, value, trace):
        self.console.sheet = self.sheet
        self.console.store.rows = self.rows
        self.console.steps_done = self.steps_done
        self.console.steps_undone = self.steps_undone
        self.console.blocked_by = self.blocked_by


def holding(console, step):
    """What a function returns that is called with a console in a Holding. Its error goes on."""
    with Holding(console) as held:
        return step(held)
