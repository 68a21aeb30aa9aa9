import itertools
import random
import unittest

from samples import some_checks, some_schema
from slipreach.checking import checked
from slipreach.errors import BadLayer, BadLayers, EmptyList, Lacking, NoEntry, NoSetting, SettingsError, TopLacking
from slipreach.kinds import Setting
from slipreach.layers import below_top, outcome, over, seen_at
from slipreach.schema import Schema
from slipreach.whys import carriers, telling_value, trail, why

LISTS = [tuple(row) for count in range(4) for row in itertools.product("abp", repeat=count)]
POOL = [None, "a", "b", "c", "p", "q", "yes", 0, 1, 7, 12] + LISTS


def layers_of(schema, *rows):
    return [None if row is None else checked(schema, row) for row in rows]


def told_by_hand(setting):
    return {"choice": [None, *setting.words], "word": [None, "a", "b"], "number": [None, 0, 1],
            "list": [None, (), ("a",), ("b",)]}[setting.kind]


def some_cases(count, seed):
    chance = random.Random(seed)
    for _ in range(count):
        schema = some_schema(chance)
        yield chance, schema, some_checks(chance, schema, chance.randint(1, 3))


class Why(unittest.TestCase):
    def test_none_default_and_given(self):
        schema = Schema([Setting("x", "word"), Setting("y", "word", default="d", elders=("o",)), Setting("z", "list")],
                        doubled="last")
        checks = layers_of(schema, [("x", "a"), ("o", "b")], None, [("x", None), ("y", None)])
        self.assertEqual(why(schema, checks, "x"), ("none",))
        self.assertEqual(why(schema, checks, "y"), ("default",))
        self.assertEqual(why(schema, checks, "z"), ("none",))
        self.assertEqual(why(schema, checks[:2], "x"), ("given", ((0, 0),)))
        self.assertEqual(why(schema, checks[:2], "y"), ("given", ((0, 1),)))
        same = layers_of(schema, [("y", "a"), ("y", "d")])
        self.assertEqual(why(schema, same, "y"), ("given", ((0, 1),)))

    def test_lists_of_several_layers(self):
        rows = [[("x", ("a",))], [("x", ("b",)), ("y", 1), ("x", ()), ("x", ("c",))], [("x", ())], None,
                [("x", ("d",))]]
        for empty, top in (("given", (2, 0)), ("lacks", None)):
            schema = Schema([Setting("x", "list", join=True)], doubled="join", unknown="pass", empty=empty)
            addresses = [(0, 0), (1, 0), (1, 2), (1, 3)] + ([top] if top else [])
            self.assertEqual(why(schema, layers_of(schema, *rows[:3]), "x"), ("given", tuple(addresses)))
        schema = Schema([Setting("x", "list", join=True)], doubled="join", unknown="pass")
        for cleared in ([("x", ("q",)), ("x", None)], [("x", None)]):
            checks = layers_of(schema, rows[0], cleared, rows[1])
            self.assertEqual(why(schema, checks, "x"), ("given", ((2, 0), (2, 2), (2, 3))))
            self.assertEqual(why(schema, checks[:2], "x"), ("none",))
        plain = Schema([Setting("x", "list")], doubled="join", unknown="pass")
        self.assertEqual(why(plain, layers_of(plain, rows[0], rows[1]), "x"), ("given", ((1, 0), (1, 2), (1, 3))))
        self.assertEqual(why(plain, layers_of(plain, rows[1], rows[2]), "x"), ("given", ((1, 0),)))

    def test_the_items_come_from_the_told_entries(self):
        chance = random.Random(41)
        many = 0
        for _ in range(400):
            join = chance.random() < 0.7
            setting = Setting("x", "list", join=join, default=chance.choice([None, ("z",)]))
            schema = Schema([setting], doubled=chance.choice(["first", "last", "join"]), wrong="lack",
                            nothing=chance.choice(["clears", "lacks"]), empty=chance.choice(["given", "lacks"]))
            letters = iter("abcdefghijklmnopqrstuvw")
            rows = [[("x", chance.choice([None, 5, (next(letters),), (next(letters),), (next(letters),)]))
                     for _ in range(chance.randint(0, 2))] for _ in range(3)]
            checks = layers_of(schema, *rows)
            found = outcome(schema, checks, "x")
            told = why(schema, checks, "x")
            if found == ("absent",):
                self.assertEqual(told, ("none",))
            elif found == ("value", ("z",)):
                self.assertEqual(told, ("default",))
            else:
                entries = [(layer, at) for layer, row in enumerate(rows) for at, (_, value) in enumerate(row)
                           if isinstance(value, tuple) and value[0] in found[1]]
                self.assertEqual(told, ("given", tuple(entries)))
                many += len(entries) > 2
        self.assertGreater(many, 20)

    def test_errors(self):
        for wanted, parts, rows in [(TopLacking, {"demand": "top"}, [[("x", ("a",))], None]),
                                    (Lacking, {"demand": "some"}, [None, None]),
                                    (EmptyList, {"filled": True}, [None, [("x", ())]])]:
            schema = Schema([Setting("y", "word", demand="some"), Setting("x", "list", **parts)])
            with self.assertRaises(wanted) as caught:
                why(schema, layers_of(schema, *rows), "x")
            self.assertEqual(caught.exception.name, "x")

    def test_what_is_refused_first(self):
        schema = Schema([Setting("x", "word", elders=("o",))])
        check = checked(schema, [])
        for function in (why, trail, carriers):
            for count in (0, 4):
                with self.assertRaises(BadLayers) as caught:
                    function(schema, [check] * count, "odd")
                self.assertEqual(caught.exception.count, count)
            for name in ("o", "odd", None, 1, True, ("x",), ["x"]):
                with self.assertRaises(NoSetting) as caught:
                    function(schema, [check], name)
                self.assertEqual(caught.exception.name, name)
            self.assertIsNotNone(function(schema, (None,), "x"))


class Trail(unittest.TestCase):
    def test_each_word(self):
        schema = Schema([Setting("x", "list", join=True)], wrong="lack", doubled="last")
        checks = layers_of(schema, [("x", ("a",))], [("x", ("b",))], [("x", ())])
        self.assertEqual(trail(schema, checks, "x"), [("alone", (("a",),)), ("behind", (("a", "b"),)),
                                                     ("behind", (("a", "b"),))])
        checks = layers_of(schema, None, [], [("x", 3)])
        self.assertEqual(trail(schema, checks, "x"), [("no file", ()), ("unnamed", ()), ("lack", ())])
        checks = layers_of(schema, [("x", ())], [("x", None)], [("x", ())])
        self.assertEqual(trail(schema, checks, "x"), [("alone", ((),)), ("cleared", ()), ("alone", ((),))])
        lacks = schema.with_rules(nothing="lacks", empty="lacks")
        checks = layers_of(lacks, [("x", ("a",))], [("x", None)], [("x", ())])
        self.assertEqual(trail(lacks, checks, "x"), [("alone", (("a",),)), ("nothing", (("a",),)),
                                                     ("empty", (("a",),))])

    def test_alone_without_join(self):
        schema = Schema([Setting("x", "list"), Setting("n", "number")])
        checks = layers_of(schema, [("x", ("a",)), ("n", 0)], [("x", ("b",)), ("n", 5)])
        self.assertEqual(trail(schema, checks, "x"), [("alone", (("a",),)), ("alone", (("b",),))])
        self.assertEqual(trail(schema, checks, "n"), [("alone", (0,)), ("alone", (5,))])

    def test_the_belows(self):
        for _, schema, checks in some_cases(300, 42):
            for name in schema.names:
                below, rows = (), trail(schema, checks, name)
                self.assertEqual(len(rows), len(checks))
                for layer, (how, after) in enumerate(rows):
                    before, below = below, over(schema, name, below, seen_at(checks, layer, name))
                    self.assertEqual(after, below)
                    if how in ("no file", "unnamed", "lack", "nothing", "empty"):
                        self.assertEqual(before, below)
                    self.assertEqual(how == "no file", checks[layer] is None)
                self.assertEqual(below, below_top(schema, checks, name))

    def test_no_error_of_joining(self):
        schema = Schema([Setting("x", "word", demand="top")])
        self.assertEqual(trail(schema, [None], "x"), [("no file", ())])


class Carriers(unittest.TestCase):
    def test_some_value_changes_the_outcome(self):
        for chance, schema, checks in some_cases(150, 43):
            for name in schema.names:
                found = []
                for layer, check in enumerate(checks):
                    for entry in () if check is None else check.entries_of(name):
                        changed = [self.outcome_with(schema, checks, layer, entry, name, value)
                                   for value in POOL if schema.fits(name, value)]
                        if any(one != outcome(schema, checks, name) for one in changed):
                            found.append((layer, entry))
                self.assertEqual(carriers(schema, checks, name), tuple(found))

    def outcome_with(self, schema, checks, layer, entry, name, value):
        others = list(checks)
        others[layer] = checks[layer].with_value(entry, value)
        return outcome(schema, others, name)

    def test_the_telling_value_is_the_first_one(self):
        kinds = set()
        for chance, schema, checks in some_cases(300, 44):
            for layer, check in enumerate(checks):
                for entry, (word, _) in enumerate(() if check is None else check.entries):
                    name = schema.called(word)
                    if name is None:
                        continue
                    wanted = None
                    for value in reversed(told_by_hand(schema.setting(name))):
                        if self.outcome_with(schema, checks, layer, entry, name, value) != outcome(schema, checks,
                                                                                                   name):
                            wanted = (value,)
                    self.assertEqual(telling_value(schema, checks, layer, entry), wanted)
                    self.assertEqual((layer, entry) in carriers(schema, checks, name), wanted is not None)
                    kinds.add((schema.setting(name).kind, wanted))
        for told in [("choice", ("p",)), ("choice", None), ("word", ("a",)), ("word", (None,)), ("word", None),
                     ("number", (0,)), ("number", (None,)), ("list", ((),)), ("list", (None,)), ("list", (("a",),))]:
            self.assertIn(told, kinds)

    def test_examples(self):
        schema = Schema([Setting("n", "number"), Setting("w", "word"), Setting("c", "choice", words=("q", "p")),
                         Setting("l", "list")], nothing="lacks")
        for row, wanted in [(("n", 0), (None,)), (("w", "a"), (None,)), (("c", "q"), (None,)), (("l", ()), (None,))]:
            self.assertEqual(telling_value(schema, layers_of(schema, [row]), 0, 0), wanted)
        below = [("n", 0), ("w", "a"), ("c", "q"), ("l", ())]
        for row, wanted in [(("n", 0), (1,)), (("w", "a"), ("b",)), (("c", "q"), ("p",)), (("l", ()), (("a",),))]:
            self.assertEqual(telling_value(schema, layers_of(schema, below, [row]), 1, 0), wanted)
        doubled = Schema([Setting("l", "list")], doubled="join")
        checks = layers_of(doubled, [("l", ("x",)), ("l", None), ("l", ("a",)), ("l", ())])
        self.assertEqual([telling_value(doubled, checks, 0, at) for at in range(4)], [None, ((),), (None,), (None,)])
        self.assertEqual(carriers(doubled, checks, "l"), ((0, 1), (0, 2), (0, 3)))

    def test_no_other_name_changes(self):
        for chance, schema, checks in some_cases(60, 45):
            for layer, check in enumerate(checks):
                for entry, (word, _) in enumerate(() if check is None else check.entries):
                    for value in POOL[:12]:
                        others = list(checks)
                        try:
                            others[layer] = check.with_value(entry, value)
                        except SettingsError:
                            continue
                        for name in schema.names:
                            if name != schema.called(word):
                                self.assertEqual(outcome(schema, checks, name), outcome(schema, others, name))

    def test_errors(self):
        schema = Schema([Setting("x", "word", elders=("o",))], unknown="pass", doubled="last")
        checks = layers_of(schema, [("x", "a"), ("odd", "b"), ("o", "c")], None)
        for count in (0, 4):
            with self.assertRaises(BadLayers):
                telling_value(schema, [None] * count, 9, 9)
        for layer in (-1, 2, 1, True, False, None, "0"):
            with self.assertRaises(BadLayer) as caught:
                telling_value(schema, checks, layer, 9)
            self.assertIs(caught.exception.layer, layer)
        for entry in (-1, 3, 1, True, False, None, "0"):
            with self.assertRaises(NoEntry) as caught:
                telling_value(schema, checks, 0, entry)
            self.assertIs(caught.exception.entry, entry)
        self.assertEqual(telling_value(schema, checks, 0, 0), None)
        self.assertEqual(telling_value(schema, checks, 0, 2), (None,))


if __name__ == "__main__":
    unittest.main()
