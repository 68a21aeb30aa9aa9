import random
import unittest

from houses import OWNER, FileMaker, files_of, house_of, some_house, some_rule
from slipreach.console import Console, Holding, holding
from slipreach.deeds import Change, Delete, Store
from slipreach.errors import BadColumn, BadLayer, BadRows, BadSlip, Blocked, TooManyRows
from slipreach.kinds import Setting
from slipreach.playing import tried
from slipreach.previews import Preview
from slipreach.rowkinds import Table
from slipreach.slips import Slip
from slipreach.tokens import tokens

ROWS = Setting("rows", "list")
NOTE = Setting("note", "word", demand="some")
TEXT = "for @rows\n  or owner is item\ntake"
GOOD = tokens("rows = [a]; note = x;")


def row(owner):
    return {"owner": owner}


def rows(text):
    return [row(owner) for owner in text]


def console_of(text="abca", settings=(ROWS, NOTE), layers=2, **more):
    return Console(house_of(list(settings), TEXT, OWNER, layers), rows(text), **more)


def state(console):
    files = [console[layer] for layer in range(console.house.layers)]
    return files, console.listed(), console.history(), console.blocked_by, console.show()


class Plain(unittest.TestCase):
    def test_beginning(self):
        console = console_of()
        self.assertEqual([console[0], console[1]], [None, None])
        self.assertEqual((console.blocked_by, console.history(), len(console)), ("joining", [], 4))
        self.assertEqual(console.listed(), rows("abca"))
        self.assertEqual(console.show(), ["refused by joining: Lacking"])
        free = console_of(settings=(ROWS,), layers=1)
        self.assertEqual((free.blocked_by, free.show()), (None, ["rows         = -", "takes 4 of 4"]))
        self.assertIs(type(free.house).__name__, "House")

    def test_bad_consoles(self):
        house = house_of([ROWS], TEXT)
        for some, at in [([3], 0), ([row("a"), {}], 1), ([row("a"), row("b"), row("B")], 2)]:
            with self.assertRaises(BadRows) as caught:
                Console(house, some, changes={"odd": 1})
            self.assertEqual(caught.exception.at, at)
        for changes, name in [({"odd": "x"}, "odd"), ({"owner": 3}, "owner"), ({"z": 1, "odd": 2, "owner": "a"}, "odd"),
                              ({"owner": "A"}, "owner")]:
            with self.assertRaises(BadColumn) as caught:
                Console(house, rows("a"), changes=changes)
            self.assertEqual(caught.exception.name, name)
        self.assertEqual(len(Console(house, [], changes={})), 0)

    def test_put(self):
        console = console_of()
        self.assertIsNone(console.put(0, GOOD))
        self.assertEqual((console[0], console.blocked_by), (GOOD, None))
        console[1] = ["odd"]
        self.assertEqual((console[1], console.blocked_by, console.show()),
                         (["odd"], "reader", ["refused by reader: Unreadable"]))
        console[1] = tokens("odd = 1;")
        self.assertEqual(console.show(), ["refused by schema: UnknownName"])
        console[1] = None
        self.assertEqual((console[1], console.blocked_by), (None, None))
        self.assertEqual(console.show(), ["rows         = [a]", "note         = x", "takes 2 of 4"])
        self.assertEqual(console.history(), ["put 0", "put 1", "put 1", "put 1"])

    def test_bad_layers(self):
        console = console_of()

        def put_item(layer):
            console[layer] = None
        for layer in (-1, 2, True, False, None, "0", 0.0, (0,), slice(0, 1)):
            for call in (lambda: console[layer], lambda: put_item(layer), lambda: console.put(layer, None),
                         lambda: console.try_file(layer, None)):
                with self.assertRaises(BadLayer) as caught:
                    call()
                self.assertEqual(caught.exception.layer, layer)
        self.assertEqual(console.history(), [])
        with self.assertRaises(TypeError):
            iter(console)

    def test_do(self):
        console = console_of()
        console[0] = GOOD
        self.assertEqual(console.do(), [row("a"), row("a")])
        self.assertEqual((console.listed(), len(console)), (rows("bc"), 2))
        self.assertEqual(console.do(), [])
        self.assertEqual(console.history(), ["put 0", "do 2", "do 0"])
        self.assertEqual(console.show()[-1], "takes 0 of 2")
        changing = console_of(changes={"owner": "b"})
        changing[0] = tokens("rows = [a, b]; note = x;")
        self.assertEqual((changing.do(), changing.listed()), (rows("aba"), rows("bbcb")))
        self.assertEqual(changing.do(most=3), rows("bbb"))

    def test_most(self):
        console = console_of()
        with self.assertRaises(Blocked) as caught:
            console.do(most=-1)
        self.assertEqual((caught.exception.stage, caught.exception.error), ("joining", "Lacking"))
        console[0] = GOOD
        for most in (1, 0, -1):
            with self.assertRaises(TooManyRows) as caught:
                console.do(most=most)
            self.assertEqual((caught.exception.count, caught.exception.most), (2, most))
        self.assertEqual((console.history(), console.listed()), (["put 0"], rows("abca")))
        self.assertEqual(len(console.do(most=2)), 2)
        with self.assertRaises(TooManyRows) as caught:
            console.do(most=-1)
        self.assertEqual(caught.exception.count, 0)

    def test_undo_and_redo(self):
        console = console_of()
        self.assertEqual((console.undo(), console.redo()), (False, False))
        states = [state(console)]
        for step in (lambda: console.put(0, GOOD), console.do, lambda: console.put(1, ["odd"])):
            step()
            states.append(state(console))
        for wanted in states[-2::-1]:
            self.assertIs(console.undo(), True)
            self.assertEqual(state(console), wanted)
        self.assertIs(console.undo(), False)
        for wanted in states[1:]:
            self.assertIs(console.redo(), True)
            self.assertEqual(state(console), wanted)
        self.assertIs(console.redo(), False)
        console.undo()
        console.undo()
        console.put(0, None)
        self.assertIs(console.redo(), False)
        self.assertEqual(console.history(), ["put 0", "put 0"])
        self.assertEqual(console.blocked_by, "joining")

    def test_failed_steps_drop_nothing(self):
        console = console_of()
        console[0] = GOOD
        console.do()
        console.undo()
        with self.assertRaises(TooManyRows):
            console.do(most=1)
        with self.assertRaises(BadLayer):
            console[7] = None
        console.try_file(1, None)
        self.assertIs(console.redo(), True)

    def test_planned(self):
        console = console_of()
        with self.assertRaises(Blocked) as caught:
            console.planned()
        self.assertEqual((caught.exception.stage, caught.exception.error), ("joining", "Lacking"))
        console[0] = GOOD
        self.assertEqual(console.planned().settings, {"rows": ("a",), "note": "x"})
        console[1] = ["rows"]
        with self.assertRaises(Blocked) as caught:
            console.planned()
        self.assertEqual((caught.exception.stage, caught.exception.error), ("reader", "Unreadable"))

    def test_try_file(self):
        console = console_of()
        self.assertEqual(console.try_file(0, GOOD), (None, rows("aa")))
        self.assertEqual(console.try_file(0, ["odd"]), ("reader", []))
        self.assertEqual(console.try_file(1, tokens("rows = [b];")), ("joining", []))
        before = state(console)
        console[0] = GOOD
        self.assertEqual(console.try_file(1, tokens("rows = [b, c];")), (None, rows("bc")))
        self.assertEqual(console.try_file(0, None), ("joining", []))
        console.undo()
        self.assertEqual(state(console), before)

    def test_try_slip(self):
        console = console_of()
        slip = Slip("left", 3)
        with self.assertRaises(Blocked) as caught:
            console.try_slip(9, Slip("left", 99))
        self.assertEqual((caught.exception.stage, caught.exception.error), ("joining", "Lacking"))
        console[0] = GOOD
        before = state(console)
        for layer in (-1, 2, True, None, "0"):
            with self.assertRaises(BadLayer) as caught:
                console.try_slip(layer, Slip("left", 99))
            self.assertEqual(caught.exception.layer, layer)
        for layer, bad in ((1, slip), (0, Slip("left", 99)), (0, Slip("written", 3, "a"))):
            with self.assertRaises(BadSlip) as caught:
                console.try_slip(layer, bad)
            self.assertEqual(caught.exception.at, bad.at)
        self.assertEqual(console.try_slip(0, slip), (None, rows("bc"), []))
        self.assertEqual(console.try_slip(0, Slip("written", 3, "b")), (None, rows("b"), rows("aa")))
        self.assertEqual(console.try_slip(0, Slip("left", 0)), ("reader", [], []))
        self.assertEqual(console.try_slip(0, Slip("written", 0, "odd")), ("schema", [], []))
        self.assertEqual(state(console), before)

    def test_copies(self):
        some, changes, file = rows("ab"), {"owner": "z"}, list(GOOD)
        console = console_of(changes=changes)
        console = Console(console.house, some, changes=changes)
        some[0]["owner"] = "q"
        some.clear()
        changes["owner"] = "y"
        console[0] = file
        file.clear()
        self.assertEqual((console[0], console.listed()), (GOOD, rows("ab")))
        for found in (console[0], console.listed(), console.history(), console.show(), console.try_file(0, GOOD)[1],
                      console.try_slip(0, Slip("left", 3))[1]):
            found.clear()
        console.listed()[0]["owner"] = "q"
        self.assertEqual((console[0], console.listed(), console.history()), (GOOD, rows("ab"), ["put 0"]))
        taken = console.do()
        self.assertEqual((taken, console.listed()), (rows("a"), rows("zb")))
        taken[0]["owner"] = "q"
        console.undo()
        self.assertEqual(console.listed(), rows("ab"))
        console.planned().settings.clear()
        self.assertEqual(console.show()[0], "rows         = [a]")


class Holdings(unittest.TestCase):
    def busy(self):
        console = console_of()
        console[0] = GOOD
        console.do()
        console.undo()
        return console

    def test_taken_back(self):
        console = self.busy()
        before = state(console)
        with Holding(console) as held:
            self.assertIs(held, console)
            console.do()
            console[1] = ["odd"]
            console.undo()
            console.undo()
            console.undo()
            console.put(0, None)
        self.assertEqual(state(console), before)
        self.assertIs(console.redo(), True)
        self.assertEqual(console.history(), ["put 0", "do 2"])

    def test_errors_go_on(self):
        console = self.busy()
        before = state(console)
        for error in (KeyError, TooManyRows, ZeroDivisionError):
            with self.assertRaises(error):
                with Holding(console):
                    console[1] = tokens("rows = [b];")
                    console.do()
                    raise error(1, 2)
            self.assertEqual(state(console), before)

    def test_one_inside_another(self):
        console = self.busy()
        before = state(console)
        with Holding(console):
            console[1] = tokens("rows = [b];")
            between = state(console)
            with self.assertRaises(KeyError):
                with Holding(console):
                    console.do()
                    console[0] = None
                    raise KeyError("x")
            self.assertEqual(state(console), between)
            console.do()
            self.assertEqual(console.listed(), rows("aca"))
        self.assertEqual(state(console), before)

    def test_made_before_it_is_entered(self):
        console = self.busy()
        held = Holding(console)
        console[1] = tokens("rows = [b];")
        before = state(console)
        with held:
            console.do()
        self.assertEqual(state(console), before)

    def test_holding(self):
        console = self.busy()
        before = state(console)
        self.assertEqual(holding(console, lambda held: (held.do(), held.history())),
                         (rows("aa"), ["put 0", "do 2"]))
        self.assertEqual(state(console), before)

        def failing(held):
            held.put(0, None)
            held.planned()
        with self.assertRaises(Blocked):
            holding(console, failing)
        self.assertEqual(state(console), before)


class Model:
    """A console of plain lists: all states that there were, and where it is."""

    def __init__(self, house, some, changes):
        self.house, self.changes = house, changes
        self.states, self.at = [([None] * house.layers, some, [])], 0

    def files(self):
        return self.states[self.at][0]

    def now(self):
        return self.states[self.at]

    def step(self, files, some, line):
        self.states = [*self.states[:self.at + 1], (files, some, [*self.now()[2], line])]
        self.at += 1

    def put(self, layer, file):
        files, some, _ = self.now()
        self.step([file if at == layer else one for at, one in enumerate(files)], some, f"put {layer}")

    def do(self, most):
        files, some, _ = self.now()
        plan, stage, error = tried(self.house, files)
        if plan is None:
            return ("blocked", stage, error)
        deed = Delete(plan.condition) if self.changes is None else Change(plan.condition, self.changes)
        store = Store(self.house.builder.table, some)
        taken = [one for one in some if deed.takes(one)]
        if most is not None and len(taken) > most:
            return ("many", len(taken), most)
        store.do(deed)
        self.step(files, store.listed(), f"do {len(taken)}")
        return taken

    def show(self):
        files, some, _ = self.now()
        plan, stage, error = tried(self.house, files)
        if plan is None:
            return [f"refused by {stage}: {error}"]
        taken = [one for one in some if plan.condition.takes(one)]
        preview = Preview(self.house, *self.house.schema.names)
        return [*preview(plan), f"takes {len(taken)} of {len(some)}"]


class Random(unittest.TestCase):
    def test_against_a_plain_one(self):
        done = 0
        for seed in range(120):
            chance = random.Random(seed)
            house = some_house(chance)
            maker, table = FileMaker(chance, house, some_rule(chance)), house.builder.table
            some = [maker.row() for _ in range(chance.randint(0, 5))]
            changes = None if chance.random() < 0.5 else {
                column: worth for column, worth in maker.row().items() if chance.random() < 0.6}
            console, model = Console(house, some, changes=changes), Model(house, some, changes)
            for _ in range(25):
                self.go(chance, maker, console, model)
                files, now, history = model.now()
                self.assertEqual([console[layer] for layer in range(house.layers)], files)
                self.assertEqual((console.listed(), console.history(), len(console)), (now, history, len(now)))
                self.assertEqual(console.blocked_by, tried(house, files)[1])
                self.assertEqual(console.show(), model.show())
            done += len([line for line in console.history() if line.startswith("do")])
            self.assertTrue(all(one in table for one in console.listed()))
        self.assertGreater(done, 100)

    def go(self, chance, maker, console, model):
        step = chance.choice(["put", "put", "do", "do", "undo", "redo", "hold"])
        if step == "put":
            layer, file = chance.randrange(console.house.layers), chance.choice([maker.file(), None, ["="]])
            console.put(layer, file)
            model.put(layer, file)
        elif step == "do":
            most = chance.choice([None, None, 0, 1, 2, -1])
            try:
                found = console.do(most=most)
            except Blocked as error:
                found = ("blocked", error.stage, error.error)
            except TooManyRows as error:
                found = ("many", error.count, error.most)
            self.assertEqual(found, model.do(most))
        elif step == "hold":
            holding(console, lambda held: [held.undo(), held.put(0, None), held.redo()])
        else:
            wanted = 0 < model.at if step == "undo" else model.at < len(model.states) - 1
            self.assertIs(console.undo() if step == "undo" else console.redo(), wanted)
            model.at += wanted * (-1 if step == "undo" else 1)


if __name__ == "__main__":
    unittest.main()
