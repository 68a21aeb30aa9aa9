import itertools
import random
import unittest

from samples import some_checks, some_schema
from slipreach.changes import is_masked, least_entries
from slipreach.checking import checked
from slipreach.errors import BadLayer, BadLayers, NoSetting, SettingsError
from slipreach.kinds import Setting
from slipreach.layers import outcome
from slipreach.schema import Schema

LISTS = [tuple(row) for count in range(4) for row in itertools.product("ap", repeat=count)]
POOL = [None, "a", "b", "p", "q", "yes", 0, 1, 7] + LISTS
WANTED = [()] + [(value,) for value in POOL]


def outcome_with(schema, checks, layer, name, values):
    others = list(checks)
    others[layer] = None if values is None else checked(schema, [(name, value) for value in values])
    return outcome(schema, others, name)


def some_cases(count, seed):
    chance = random.Random(seed)
    for _ in range(count):
        schema = some_schema(chance)
        checks = some_checks(chance, schema, chance.randint(1, 3))
        yield schema, checks, chance.randrange(len(checks)), chance.choice(schema.names)


def all_outcomes(schema, checks, layer, name, pool):
    for values in [None, []] + [[value] for value in pool] + [list(pair) for pair in itertools.product(pool, repeat=2)]:
        try:
            yield outcome_with(schema, checks, layer, name, values)
        except SettingsError:
            pass


class Masked(unittest.TestCase):
    def test_whatever_the_layer_has(self):
        found = set()
        for schema, checks, layer, name in some_cases(250, 47):
            outcomes = list(all_outcomes(schema, checks, layer, name, POOL[:14]))
            masked = is_masked(schema, checks, layer, name)
            self.assertEqual(masked, all(one == outcomes[0] for one in outcomes))
            found.add(masked)
        self.assertEqual(found, {True, False})

    def check(self, wanted, setting, rows, layer=0, **rules):
        schema = Schema([setting], **rules)
        checks = [None if row is None else checked(schema, row) for row in rows]
        self.assertIs(is_masked(schema, checks, layer, setting.name), wanted)

    def test_each_rule(self):
        word, plain = Setting("x", "word"), Setting("x", "list")
        join = Setting("x", "list", join=True)
        self.check(True, word, [None, [("x", "a")]])
        self.check(False, word, [None, [("x", "a")]], 1)
        self.check(True, word, [[("x", "b")], [("x", None)]])
        self.check(False, word, [[("x", "b")], [("x", None)]], nothing="lacks")
        self.check(False, word, [None, []])
        self.check(True, plain, [None, [("x", ("a",))]])
        self.check(False, join, [None, [("x", ("a",))]])
        self.check(True, join, [None, [("x", None)]])
        self.check(True, plain, [None, [("x", ())]])
        self.check(False, plain, [None, [("x", ())]], empty="lacks")
        self.check(False, word, [None, [("x", 3)]], wrong="lack")

    def test_demand_choice_and_filled(self):
        only = {"words": ("p",)}
        self.check(True, Setting("x", "choice", default="p", **only), [None])
        self.check(False, Setting("x", "choice", **only), [None])
        self.check(True, Setting("x", "choice", **only), [None, [("x", "p")]])
        self.check(True, Setting("x", "choice", demand="top", **only), [None, []])
        self.check(False, Setting("x", "choice", demand="some", **only), [None, []])
        self.check(False, Setting("x", "list", filled=True, join=True), [None, [("x", ("a",))]])
        self.check(True, Setting("x", "list", filled=True), [None, [("x", ())]])
        self.check(True, Setting("x", "list", filled=True, demand="top", join=True), [None, [("x", None)]])


class LeastEntries(unittest.TestCase):
    def test_against_all_short_rows(self):
        lengths = set()
        for schema, checks, layer, name in some_cases(250, 48):
            for wanted in WANTED:
                self.check_least(schema, checks, layer, name, wanted, lengths)
        self.assertEqual(lengths, {None, "none", "nothing", "value"})

    def check_least(self, schema, checks, layer, name, wanted, lengths):
        goal = ("absent",) if wanted == () else ("value", wanted[0])
        is_sound = wanted == () or (wanted[0] is not None and schema.fits(name, wanted[0]))
        found = [values for values in [[], [None]] + [[value] for value in POOL[1:] if schema.fits(name, value)]
                 if is_sound and outcome_with(schema, checks, layer, name, values) == goal]
        least = least_entries(schema, checks, layer, name, wanted)
        self.assertEqual(least, found[0] if found else None)
        lengths.add(None if least is None else "none" if least == [] else "nothing" if least == [None] else "value")
        if not found and is_sound:
            self.assertNotIn(goal, list(all_outcomes(schema, checks, layer, name, POOL[:8])))

    def test_the_shortest_list(self):
        schema = Schema([Setting("x", "list", join=True)])
        checks = [checked(schema, [("x", ("a", "b"))]), None, checked(schema, [("x", ("c",))])]
        self.assertEqual(least_entries(schema, checks, 1, "x", (("a", "b", "z", "c"),)), [("z",)])
        self.assertEqual(least_entries(schema, checks, 1, "x", (("a", "b", "c"),)), [])
        self.assertEqual(least_entries(schema, checks, 1, "x", (("c",),)), [None])
        self.assertEqual(least_entries(schema, checks, 0, "x", (("q", "q", "c"),)), [("q", "q")])
        self.assertIsNone(least_entries(schema, checks, 1, "x", (("b", "c"),)))
        self.assertIsNone(least_entries(schema, checks, 1, "x", (("a", "b"),)))
        self.assertIsNone(least_entries(schema, checks, 1, "x", ()))
        pairs = least_entries(schema, checks, 2, "x", (("a", "b", "c d"),))
        self.assertEqual(pairs, [("c d",)])

    def test_empty_lists_and_defaults(self):
        given = Schema([Setting("x", "list", default=("d",))])
        self.assertEqual(least_entries(given, [None], 0, "x", ((),)), [()])
        self.assertEqual(least_entries(given, [None], 0, "x", (("d",),)), [])
        lacks = given.with_rules(empty="lacks")
        self.assertIsNone(least_entries(lacks, [None], 0, "x", ((),)))
        self.assertIsNone(least_entries(given, [None], 0, "x", ()))

    def test_wanted_things_that_do_not_fit(self):
        schema = Schema([Setting("n", "number"), Setting("c", "choice", words=("p",))])
        for name, value in [("n", None), ("n", "p"), ("n", True), ("n", -1), ("n", 10 ** 12), ("n", 1.0), ("n", [1]),
                            ("c", None), ("c", "q"), ("c", ("p",)), ("c", ["p"])]:
            self.assertIsNone(least_entries(schema, [None], 0, name, (value,)))
        self.assertEqual(least_entries(schema, [None], 0, "n", ()), [])
        self.assertEqual(least_entries(schema, [None], 0, "n", (10 ** 12 - 1,)), [10 ** 12 - 1])

    def test_what_is_refused_first(self):
        schema = Schema([Setting("x", "word", elders=("o",))])
        for function in (is_masked, lambda *told: least_entries(*told, ("no word",))):
            for count in (0, 4):
                with self.assertRaises(BadLayers) as caught:
                    function(schema, [None] * count, 9, "odd")
                self.assertEqual(caught.exception.count, count)
            for name in ("o", "odd", None, 1, ["x"]):
                with self.assertRaises(NoSetting) as caught:
                    function(schema, [None], 9, name)
                self.assertEqual(caught.exception.name, name)
            for layer in (-1, 1, True, False, None, "0"):
                with self.assertRaises(BadLayer) as caught:
                    function(schema, [None], layer, "x")
                self.assertIs(caught.exception.layer, layer)


if __name__ == "__main__":
    unittest.main()
