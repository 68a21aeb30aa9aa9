import itertools
import random
import unittest

from slipreach.checking import checked
from slipreach.errors import BadLayer, BadLayers, EmptyList, Lacking, NoSetting, TopLacking
from slipreach.kinds import Setting
from slipreach.layers import below_top, changed_names, finished, gives, joined, outcome, over, seen_at
from slipreach.schema import Schema

SEENS = {"word": [(), ("lack",), ("value", None), ("value", "x"), ("value", "y")],
         "list": [(), ("lack",), ("value", None), ("value", ()), ("value", ("a",)), ("value", ("b", "c"))]}
BELOWS = {"word": [(), ("z",)], "list": [(), ((),), (("p",),)]}
NO_NAMES = ["odd", "elder", None, 1, True, ("name",), ["name"]]


def schemas():
    for nothing, empty in itertools.product(("clears", "lacks"), ("given", "lacks")):
        for default in (None, "d"):
            for demand in ("no", "some", "top") if default is None else ("no",):
                setting = Setting("name", "word", default=default, demand=demand, elders=("elder",))
                yield Schema([setting], nothing=nothing, empty=empty, doubled="join", wrong="lack")
        for default, join, filled in itertools.product((None, (), ("d",)), (False, True), (False, True)):
            for demand in ("no", "some", "top") if default is None else ("no",):
                setting = Setting("name", "list", default=default, join=join, filled=filled, demand=demand)
                yield Schema([setting], nothing=nothing, empty=empty, doubled="join", wrong="lack")


def setting_of(schema):
    return schema.setting("name")


def over_by_hand(schema, below, seen):
    if seen in ((), ("lack",)):
        return below
    value = seen[1]
    if value is None:
        return () if schema.nothing == "clears" else below
    if value == () and schema.empty == "lacks":
        return below
    if setting_of(schema).join and below:
        return (below[0] + value,)
    return (value,)


def gives_by_hand(schema, seen):
    if seen[:1] != ("value",) or seen[1] is None:
        return False
    return not (seen[1] == () and schema.empty == "lacks")


def outcome_by_hand(schema, seens):
    setting = setting_of(schema)
    below = ()
    for seen in seens:
        below = over_by_hand(schema, below, seen)
    if setting.demand == "top" and not gives_by_hand(schema, seens[-1]):
        return ("top lacking",)
    if setting.demand == "some" and below == ():
        return ("lacking",)
    if setting.filled and below == ((),):
        return ("empty list",)
    if below == ():
        return ("absent",) if setting.default is None else ("value", setting.default)
    return ("value", below[0])


def check_of(schema, seen):
    """A checked file with this seen, or no file for ()."""
    if seen == ():
        return None
    return checked(schema, [("name", 7 if seen == ("lack",) else seen[1])])


ERRORS = {TopLacking: ("top lacking",), Lacking: ("lacking",), EmptyList: ("empty list",)}


class Steps(unittest.TestCase):
    def test_over_and_gives(self):
        for schema in schemas():
            kind = setting_of(schema).kind
            for seen in SEENS[kind]:
                self.assertIs(gives(schema, "name", seen), gives_by_hand(schema, seen))
                for below in BELOWS[kind]:
                    self.assertEqual(over(schema, "name", below, seen), over_by_hand(schema, below, seen))

    def test_finished(self):
        for schema in schemas():
            setting = setting_of(schema)
            for below, seen in itertools.product(BELOWS[setting.kind], SEENS[setting.kind]):
                self.assertEqual(self.finish(schema, below, seen), self.finish_by_hand(schema, below, seen))

    def finish(self, schema, below, seen):
        try:
            return finished(schema, "name", below, seen)
        except (TopLacking, Lacking, EmptyList) as error:
            self.assertEqual(error.name, "name")
            return type(error)

    def finish_by_hand(self, schema, below, seen):
        setting = setting_of(schema)
        if setting.demand == "top" and not gives_by_hand(schema, seen):
            return TopLacking
        if setting.demand == "some" and below == ():
            return Lacking
        if setting.filled and below == ((),):
            return EmptyList
        if below == () and setting.default is not None:
            return (setting.default,)
        return below

    def test_no_setting(self):
        schema = Schema([Setting("name", "word", elders=("elder",))])
        for thing in NO_NAMES:
            for ask in (lambda: over(schema, thing, (), ()), lambda: gives(schema, thing, ()),
                        lambda: finished(schema, thing, (), ())):
                with self.assertRaises(NoSetting) as caught:
                    ask()
                self.assertIs(caught.exception.name, thing)


class Joined(unittest.TestCase):
    def test_all_layers(self):
        for schema in schemas():
            seens = SEENS[setting_of(schema).kind]
            for count in (1, 2, 3):
                for row in itertools.product(seens, repeat=count):
                    self.check(schema, row)

    def check(self, schema, seens):
        checks = [check_of(schema, seen) for seen in seens]
        below = ()
        for layer, seen in enumerate(seens):
            self.assertEqual(seen_at(checks, layer, "name"), seen)
            below = over_by_hand(schema, below, seen)
        self.assertEqual(below_top(schema, tuple(checks), "name"), below)
        wanted = outcome_by_hand(schema, seens)
        self.assertEqual(outcome(schema, checks, "name"), wanted)
        if wanted[0] in ("value", "absent"):
            self.assertEqual(joined(schema, tuple(checks)), {"name": wanted[1]} if len(wanted) == 2 else {})
        else:
            with self.assertRaises((TopLacking, Lacking, EmptyList)) as caught:
                joined(schema, checks)
            self.assertEqual((ERRORS[type(caught.exception)], caught.exception.name), (wanted, "name"))

    def test_no_file_is_as_a_file_without_entries(self):
        for schema in schemas():
            empty = checked(schema, [])
            for seen in SEENS[setting_of(schema).kind]:
                for checks in ([None, check_of(schema, seen)], [check_of(schema, seen), None], [None]):
                    full = [empty if check is None else check for check in checks]
                    self.assertEqual(outcome(schema, checks, "name"), outcome(schema, full, "name"))

    def test_order_of_the_schema(self):
        schema = Schema([Setting("b", "word", default="x"), Setting("a", "list"), Setting("c", "number")])
        checks = [checked(schema, [("c", 1), ("a", ("p",))]), checked(schema, [("a", ("q",))])]
        settings = joined(schema, checks)
        self.assertEqual(list(settings.items()), [("b", "x"), ("a", ("q",)), ("c", 1)])
        settings.clear()
        self.assertEqual(len(joined(schema, checks)), 3)
        cleared = [*checks, checked(schema, [("c", None), ("b", None)])]
        self.assertEqual(list(joined(schema, cleared).items()), [("b", "x"), ("a", ("q",))])

    def test_first_error_by_the_order_of_the_schema(self):
        lacking = Setting("a", "word", demand="some")
        top = Setting("b", "word", demand="top")
        empty = Setting("c", "list", filled=True)
        classes = {"a": Lacking, "b": TopLacking, "c": EmptyList}
        for settings in itertools.permutations([lacking, top, empty]):
            schema = Schema(settings)
            with self.assertRaises(classes[settings[0].name]) as caught:
                joined(schema, [checked(schema, [("c", ()), ("b", "x")]), None])
            self.assertEqual(caught.exception.name, settings[0].name)

    def test_changed_names(self):
        chance = random.Random(1)
        schema = Schema([Setting("b", "word", default="x"), Setting("a", "list", join=True), Setting("c", "number")],
                        doubled="join")
        entries = [("b", "x"), ("b", "y"), ("b", None), ("a", ("p",)), ("a", ()), ("c", 1), ("c", 0)]
        for _ in range(300):
            sides = [[chance.choice([None, checked(schema, [chance.choice(entries) for _ in range(3)])])
                      for _ in range(chance.randint(1, 3))] for _ in range(2)]
            first, second = [joined(schema, side) for side in sides]
            wanted = [name for name in ("b", "a", "c") if first.get(name, "none") != second.get(name, "none")]
            self.assertEqual(changed_names(schema, *sides), wanted)


class Refusals(unittest.TestCase):
    SCHEMA = Schema([Setting("name", "word", elders=("elder",), demand="some"), Setting("other", "word")])

    def test_number_of_layers(self):
        good = [checked(self.SCHEMA, [("name", "x")])]
        for count in (0, 4, 5):
            checks = [None] * count
            for ask in (lambda: seen_at(checks, 0, "odd"), lambda: below_top(self.SCHEMA, checks, "odd"),
                        lambda: outcome(self.SCHEMA, checks, "odd"), lambda: joined(self.SCHEMA, checks),
                        lambda: changed_names(self.SCHEMA, checks, good),
                        lambda: changed_names(self.SCHEMA, good, tuple(checks))):
                with self.assertRaises(BadLayers) as caught:
                    ask()
                self.assertEqual(caught.exception.count, count)

    def test_names(self):
        for thing in NO_NAMES:
            for ask in (lambda: below_top(self.SCHEMA, [None], thing), lambda: outcome(self.SCHEMA, [None], thing),
                        lambda: seen_at([checked(self.SCHEMA, [])], 0, thing)):
                with self.assertRaises(NoSetting) as caught:
                    ask()
                self.assertIs(caught.exception.name, thing)
            self.assertEqual(seen_at([None], 0, thing), ())

    def test_layers(self):
        for thing in [True, False, None, "0", 1.0, -1]:
            with self.assertRaises(BadLayer) as caught:
                seen_at([None, None], thing, "name")
            self.assertIs(caught.exception.layer, thing)

    def test_changed_names_tells_the_first_side_first(self):
        other = Schema([Setting("name", "word", demand="top")])
        with self.assertRaises(Lacking):
            changed_names(self.SCHEMA, [None], [])
        with self.assertRaises(TopLacking):
            changed_names(other, [checked(other, [("name", "x")])], [None])


if __name__ == "__main__":
    unittest.main()
