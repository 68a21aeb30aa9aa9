import itertools
import random
import unittest

from slipreach.errors import BadSchema, DoubledName, NoSetting, WrongKind
from slipreach.kinds import Setting
from slipreach.runs import Run
from slipreach.schema import Schema, met

MODE = Setting("mode", "choice", words=("x", "y"))
ROWS = Setting("rows", "list")

VALUES = {"mode": ["x", "y", None, "z", 1], "rows": [("a",), ("b", "c"), (), None, "a"]}
OTHERS = {"mode": [("value", "x"), ("value", "y")], "rows": [("value", ()), ("value", ("p",)), ("value", ("p", "q"))]}
FAULTS = [("wrong",), ("doubled",)]


def schemas():
    for doubled, wrong in itertools.product(("refuse", "first", "last", "join"), ("refuse", "lack")):
        yield Schema([MODE, ROWS], doubled=doubled, wrong=wrong)


def seens(name):
    return [(), ("lack",), ("value", None), *OTHERS[name]]


def come_of(schema, name, seen, values):
    for value in values:
        try:
            seen = met(schema, name, seen, value)
        except WrongKind:
            return ("wrong",)
        except DoubledName:
            return ("doubled",)
    return seen


def rows_of_values(chance, name):
    for count in range(3):
        yield from itertools.product(VALUES[name], repeat=count)
    for _ in range(60):
        yield tuple(chance.choice(VALUES[name]) for _ in range(chance.randint(3, 5)))


class Runs(unittest.TestCase):
    def each(self, seed=1):
        chance = random.Random(seed)
        for schema in schemas():
            for name in VALUES:
                for values in rows_of_values(chance, name):
                    yield schema, name, values

    def test_what_comes_of_each_seen(self):
        for schema, name, values in self.each():
            run = Run.over_values(schema, name, list(values))
            self.assertEqual((run.schema, run.name), (schema, name))
            for seen in seens(name):
                self.assertEqual(run(seen), come_of(schema, name, seen, values))
            for seen in FAULTS:
                self.assertEqual(run(seen), seen)

    def test_forms(self):
        for schema, name, values in self.each():
            forms = Run.over_values(schema, name, values).forms
            self.assertIs(type(forms), tuple)
            self.assertEqual(forms[:3], tuple(come_of(schema, name, seen, values) for seen in seens(name)[:3]))
            self.assertEqual(forms[3], self.last_form(schema, name, values))

    def last_form(self, schema, name, values):
        """The form that tells what comes of two unlike values, with the empty list left out."""
        seen = OTHERS[name][-2:]
        comes = [come_of(schema, name, one, values) for one in seen]
        if comes == seen:
            return ("same",)
        if comes[0] == comes[1]:
            return ("always", comes[0])
        return ("behind", comes[0][1][1:])

    def test_special_forms(self):
        empty = Run.over_values(Schema([ROWS]), "rows", [])
        self.assertEqual(empty.forms, ((), ("lack",), ("value", None), ("same",)))
        first = Schema([MODE], doubled="first", wrong="lack")
        self.assertEqual(Run.over_values(first, "mode", ["z", "x"]).forms,
                         (("lack",), ("lack",), ("value", None), ("same",)))
        join = Schema([ROWS], doubled="join", wrong="lack")
        self.assertEqual(Run.over_values(join, "rows", ["a", (), ()]).forms,
                         (("value", ()), ("value", ()), ("value", ()), ("same",)))
        self.assertEqual(Run.over_values(join, "rows", [("a",), "x", ("b",)]).forms[3], ("behind", ("a", "b")))
        self.assertEqual(Run.over_values(join, "rows", [("a",), None, ("b",)]).forms[3], ("always", ("value", ("b",))))
        refuse = Schema([MODE])
        self.assertEqual(Run.over_values(refuse, "mode", ["x", "z"]).forms,
                         (("wrong",), ("doubled",), ("doubled",), ("always", ("doubled",))))

    def test_sums(self):
        chance = random.Random(4)
        for schema, name, values in self.each(5):
            at = chance.randint(0, len(values))
            one = Run.over_values(schema, name, values[:at])
            other = Run.over_values(schema, name, values[at:])
            whole = Run.over_values(schema, name, values)
            self.assertEqual(one + other, whole)
            self.assertEqual((one + other).forms, whole.forms)
            third = Run.over_values(schema, name, [chance.choice(VALUES[name])])
            self.assertEqual((one + other) + third, one + (other + third))
            self.assertEqual(one, Run.over_values(schema, name, values[:at]))

    def test_equality(self):
        for schema in schemas():
            for name in VALUES:
                rows = [list(values) for count in range(3) for values in itertools.product(VALUES[name], repeat=count)]
                runs = [Run.over_values(schema, name, values) for values in rows]
                comes = [[run(seen) for seen in seens(name)] for run in runs]
                for one, other in itertools.product(range(len(runs)), repeat=2):
                    self.assertIs(runs[one] == runs[other], comes[one] == comes[other])
        schema = Schema([ROWS, Setting("more", "list")], doubled="join")
        run = Run.over_values(schema, "rows", [("a",)])
        self.assertNotEqual(run, Run.over_values(schema, "more", [("a",)]))
        self.assertNotEqual(run, Run.over_values(schema.with_rules(empty="lacks"), "rows", [("a",)]))
        for thing in [None, run.forms, 1]:
            self.assertFalse(run == thing)

    def test_errors(self):
        schema = Schema([MODE, ROWS])
        for thing in ["odd", None, 1, ("mode",)]:
            with self.assertRaises(NoSetting) as caught:
                Run.over_values(schema, thing, [])
            self.assertIs(caught.exception.name, thing)
        run = Run.over_values(schema, "mode", [])
        for other in [Run.over_values(schema, "rows", []),
                      Run.over_values(schema.with_rules(wrong="lack"), "mode", [])]:
            with self.assertRaises(BadSchema) as caught:
                run + other
            self.assertEqual(caught.exception.what, "run")


if __name__ == "__main__":
    unittest.main()
