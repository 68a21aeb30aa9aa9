import itertools
import unittest

from slipreach.checking import checked
from slipreach.errors import BadLayer, BadLayers, NoSetting
from slipreach.kinds import Setting
from slipreach.layers import below_top, over, seen_at
from slipreach.lifts import Lift, lift_above
from slipreach.schema import Schema
from test_layers import SEENS, check_of, schemas, setting_of

BELOWS = {"word": [(), ("x",), ("y",)], "list": [(), ((),), (("p",),), (("p", "q"),)]}


class Lifts(unittest.TestCase):
    def test_forms(self):
        for schema in schemas():
            setting = setting_of(schema)
            for seen in SEENS[setting.kind]:
                form = Lift.of_seen(schema, "name", seen).form
                if seen in ((), ("lack",)):
                    wanted = ("same",)
                elif seen[1] is None:
                    wanted = ("always", ()) if schema.nothing == "clears" else ("same",)
                elif seen[1] == () and schema.empty == "lacks":
                    wanted = ("same",)
                else:
                    wanted = ("behind", seen[1]) if setting.join else ("always", (seen[1],))
                self.assertEqual(form, wanted)

    def test_a_lift_does_what_over_does(self):
        for schema in schemas():
            kind = setting_of(schema).kind
            for seen, below in itertools.product(SEENS[kind], BELOWS[kind]):
                self.assertEqual(Lift.of_seen(schema, "name", seen)(below), over(schema, "name", below, seen))

    def test_sums(self):
        for schema in schemas():
            kind = setting_of(schema).kind
            lifts = [Lift.of_seen(schema, "name", seen) for seen in SEENS[kind]]
            for one, two, three in itertools.product(lifts, repeat=3):
                left, right = (one + two) + three, one + (two + three)
                self.assertEqual(left, right)
                self.assertEqual(left.form, right.form)
                for below in BELOWS[kind]:
                    self.assertEqual(left(below), three(two(one(below))))

    def test_equality(self):
        for schema in schemas():
            kind = setting_of(schema).kind
            lifts = [Lift.of_seen(schema, "name", seen) for seen in SEENS[kind]]
            lifts += [one + two for one in lifts for two in lifts]
            does = [[lift(below) for below in BELOWS[kind]] for lift in lifts]
            for one, other in itertools.product(range(len(lifts)), repeat=2):
                self.assertIs(lifts[one] == lifts[other], does[one] == does[other])
        for thing in [None, ("same",), 1]:
            self.assertFalse(Lift.of_seen(schema, "name", ()) == thing)

    def test_no_setting(self):
        schema = Schema([Setting("name", "word", elders=("elder",))])
        for thing in ["elder", "odd", None, ("name",), 1]:
            with self.assertRaises(NoSetting) as caught:
                Lift.of_seen(schema, thing, ())
            self.assertIs(caught.exception.name, thing)


class LiftAbove(unittest.TestCase):
    def test_all_layers(self):
        for schema in schemas():
            seens = SEENS[setting_of(schema).kind]
            for count in (1, 2, 3):
                for row in itertools.product(seens[1:], repeat=count):
                    checks = [check_of(schema, seen) for seen in row]
                    self.assertEqual(lift_above(schema, checks, count - 1, "name").form, ("same",))
                    for layer in range(count):
                        below = ()
                        for low in range(layer + 1):
                            below = over(schema, "name", below, seen_at(checks, low, "name"))
                        lift = lift_above(schema, tuple(checks), layer, "name")
                        self.assertEqual(lift(below), below_top(schema, checks, "name"))

    def test_layers_without_a_file(self):
        schema = Schema([Setting("name", "list", join=True)])
        checks = [None, checked(schema, [("name", ("a",))]), None]
        self.assertEqual(lift_above(schema, checks, 0, "name").form, ("behind", ("a",)))
        self.assertEqual(lift_above(schema, checks, 1, "name").form, ("same",))

    def test_refusals(self):
        schema = Schema([Setting("name", "word")])
        for count in (0, 4):
            with self.assertRaises(BadLayers) as caught:
                lift_above(schema, [None] * count, 9, "odd")
            self.assertEqual(caught.exception.count, count)
        with self.assertRaises(NoSetting) as caught:
            lift_above(schema, [None], 9, "odd")
        self.assertEqual(caught.exception.name, "odd")
        for thing in [-1, 2, True, False, None, "0", (0,)]:
            with self.assertRaises(BadLayer) as caught:
                lift_above(schema, [None, None], thing, "name")
            self.assertIs(caught.exception.layer, thing)


if __name__ == "__main__":
    unittest.main()
