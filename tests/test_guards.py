import itertools
import random
import unittest

from houses import OWNER, FileMaker, files_of, house_of, some_house, some_rule
from slipreach.errors import BadGuard
from slipreach.guards import fits, guarded, is_strict
from slipreach.kinds import Setting
from slipreach.language import Language
from slipreach.playing import tried

WORDS = ["equals", "between", "end", "comma", "single", "bare", "value", "unknown", "doubled", "wrong", "nothing",
         "empty"]
ROWS = Setting("rows", "list", join=True, elders=("lines",), default=("a",))
NOTE = Setting("note", "word", default="x")
TOP = Setting("most", "number", demand="top")
LOOSE = Language(equals="may", end="may", comma="joins", last="may", doubled=("=", ";", ","), bare=True, nothing=True)
RULES = {"unknown": "pass", "doubled": "join", "wrong": "lack", "nothing": "clears", "empty": "given"}


def standard(layers=2, language=LOOSE, settings=(ROWS, NOTE, TOP), **rules):
    return house_of(list(settings), "for @rows\n  or owner is item\ntake", OWNER, layers, language,
                    **{**RULES, **rules})


def all_guards(house):
    return [*WORDS, *[(word, name) for word in ("filled", "alone", "some", "top") for name in house.schema.names]]


def told(house):
    """All that can be told of a house, a dict."""
    language = {option: getattr(house.language, option)
                for option in ("equals", "end", "comma", "last", "doubled", "bare", "nothing")}
    parts = ("kind", "words", "default", "elders", "join", "demand", "filled")
    settings = {(setting.name, part): getattr(setting, part) for setting in house.schema for part in parts}
    return {**{("language", option): worth for option, worth in language.items()}, **settings,
            **{("rule", rule): worth for rule, worth in house.schema.rules().items()},
            "names": house.schema.names, "layers": house.layers, "builder": house.builder}


def unlike(house, guards):
    """What the guards change: a dict."""
    before, after = told(house), told(guarded(house, guards))
    return {key: after[key] for key in before if before[key] != after[key]}


class Fitting(unittest.TestCase):
    def test_fits(self):
        house = standard()
        for guard in [*WORDS, ("some", "rows"), ("top", "note"), ("some", "most"), ("filled", "rows"),
                      ("alone", "rows")]:
            self.assertIs(fits(house, guard), True, guard)
        for guard in ["", "odd", "filled", "some", None, 3, True, ("equals",), ("equals", "rows"), ("filled", "note"),
                      ("alone", "most"), ("some", "lines"), ("top", "odd"), ("some", None), ("some", "rows", "rows"),
                      ["some", "rows"], ("rows", "some"), (), ("filled", "lines"), ("odd", "rows"), (None, "rows"),
                      ("some", ["rows"]), (["some"], "rows"), {"some": "rows"}]:
            self.assertIs(fits(house, guard), False, guard)

    def test_bad_guards(self):
        for call in (guarded, is_strict):
            for guards, index in [(["odd"], 0), (("end", "end", ("filled", "note")), 2), (["end", 3, "odd"], 1)]:
                with self.assertRaises(BadGuard) as caught:
                    call(standard(), guards)
                self.assertEqual(caught.exception.index, index)


class Guarded(unittest.TestCase):
    def test_each_guard(self):
        house = standard()
        for guards, wanted in [
                ([], {}), (["equals"], {("language", "equals"): "must"}),
                (["between"], {("language", "end"): "between"}), (["end"], {("language", "end"): "must"}),
                (["comma"], {("language", "comma"): "must"}), (["single"], {("language", "doubled"): ()}),
                (["bare"], {("language", "bare"): False}), (["value"], {("language", "nothing"): False}),
                (["unknown"], {("rule", "unknown"): "refuse"}), (["doubled"], {("rule", "doubled"): "refuse"}),
                (["wrong"], {("rule", "wrong"): "refuse"}), (["nothing"], {("rule", "nothing"): "lacks"}),
                (["empty"], {("rule", "empty"): "lacks"}), ([("filled", "rows")], {("rows", "filled"): True}),
                ([("alone", "rows")], {("rows", "join"): False}),
                ([("some", "rows")], {("rows", "default"): None, ("rows", "demand"): "some"}),
                ([("some", "most")], {}), ([("top", "most")], {}),
                ([("top", "note")], {("note", "default"): None, ("note", "demand"): "top"})]:
            self.assertEqual(unlike(house, guards), wanted)
            self.assertEqual(unlike(house, tuple(guards + guards)), wanted)

    def test_beside_each_other(self):
        house = standard()
        for guards in (["between", "end"], ["end", "between"]):
            self.assertEqual(unlike(house, guards), {("language", "end"): "must"})
        for guards in ([("some", "note"), ("top", "note")], [("top", "note"), ("some", "note")]):
            self.assertEqual(unlike(house, guards), {("note", "default"): None, ("note", "demand"): "top"})
        between = standard(language=Language(end="between"))
        self.assertEqual(unlike(between, ["between"]), {})
        self.assertEqual(unlike(standard(language=Language()), ["between", "end", "equals", "comma", "single"]), {})
        some = standard(settings=(ROWS, NOTE.changed(default=None, demand="some"), TOP))
        self.assertEqual(unlike(some, [("some", "note")]), {})
        self.assertEqual(unlike(some, [("top", "note")]), {("note", "demand"): "top"})

    def test_all_at_once(self):
        house = standard()
        guards = all_guards(house)[:14] + [("alone", "rows"), ("some", "note"), ("top", "rows")]
        before = told(house)
        guards = [guard for guard in guards if fits(house, guard)]
        changed = {}
        for guard in guards:
            changed.update(unlike(house, [guard]))
        changed[("language", "end")] = "must"
        for seed in range(5):
            random.Random(seed).shuffle(guards)
            self.assertEqual(unlike(house, guards), changed)
        self.assertEqual(told(house), before)
        self.assertIs(guarded(house, guards).builder, house.builder)


class Strict(unittest.TestCase):
    def check(self, house, guards, wanted):
        self.assertIs(is_strict(house, guards), wanted, guards)

    def test_equals(self):
        house = standard(layers=1)
        self.check(house, ["equals"], False)
        for more in ("bare", "between", "end"):
            self.check(house, ["equals", more], True)
        self.check(house, ["equals", "value", "comma"], False)
        for options in ({"equals": "must"}, {"bare": False}, {"end": "between"}, {"end": "must"}):
            self.check(standard(layers=1, language=LOOSE.with_options(**options)), ["equals"], True)

    def test_nothing(self):
        self.check(standard(), ["nothing"], False)
        self.check(standard(), ["nothing", "value"], True)
        self.check(standard(layers=1), ["nothing"], True)
        self.check(standard(nothing="lacks"), ["nothing"], True)
        self.check(standard(language=LOOSE.with_options(nothing=False)), ["nothing"], True)
        self.check(standard(layers=3), ["wrong", "nothing"], False)

    def test_empty(self):
        for layers in (1, 2):
            self.check(standard(layers), ["empty"], False)
            self.check(standard(layers), ["empty", ("filled", "rows")], False)
            self.check(standard(layers, empty="lacks"), ["empty"], True)
        alone = house_of([NOTE, TOP], "take", OWNER, 2, LOOSE, **RULES)
        self.check(alone, ["empty"], True)

    def test_alone(self):
        self.check(standard(), [("alone", "rows")], False)
        self.check(standard(layers=1), [("alone", "rows")], True)
        self.check(standard(settings=(ROWS.changed(join=False), NOTE)), [("alone", "rows")], True)
        self.check(standard(), [("filled", "rows"), ("some", "rows"), ("top", "note"), "doubled", "unknown"], True)
        self.check(standard(), [], True)

    def test_the_example(self):
        language = Language(equals="may", end="may", bare=True)
        house = standard(layers=1, language=language, settings=(ROWS, NOTE))
        files = files_of("rows x")
        self.assertEqual(house.run(files).settings, {"rows": ("a",), "note": "x"})
        loose = house_of([Setting("rows", "word"), Setting("x", "word")], "take", OWNER, 1, language)
        self.assertEqual(loose.run(files).settings, {"rows": "x"})
        self.assertEqual(guarded(loose, ["equals"]).run(files).settings, {"rows": "yes", "x": "yes"})

    def test_strict_guards_keep_the_meaning(self):
        taken, loose = 0, 0
        for seed in range(260):
            chance = random.Random(seed)
            house = some_house(chance)
            pool = [guard for guard in all_guards(house) if fits(house, guard)]
            guards = chance.sample(pool, min(len(pool), chance.randint(1, 4)))
            strict = guarded(house, guards)
            maker = FileMaker(chance, house, some_rule(chance))
            for _ in range(40):
                files = maker.files()
                later, plan = tried(strict, files)[0], tried(house, files)[0]
                if later is None:
                    continue
                same = plan is not None and plan.settings == later.settings
                if is_strict(house, guards):
                    taken += 1
                    self.assertTrue(same, (seed, guards, files))
                loose += not same
        self.assertGreater(taken, 300)
        self.assertGreater(loose, 0)

    def test_each_of_the_four_can_change_the_meaning(self):
        bare = NOTE.changed(default=None)
        for rows, guards, texts in [
                (ROWS, ["equals"], ("note lines", None)), (ROWS, ["nothing"], ("note = b;", "note = ;")),
                (ROWS.changed(default=None, join=False), ["empty"], ("rows = [a];", "rows = [];")),
                (ROWS, [("alone", "rows")], ("rows = [a];", "rows = [b];"))]:
            house = standard(settings=(rows, bare))
            files = files_of(*texts)
            self.assertFalse(is_strict(house, guards))
            self.assertNotEqual(house.run(files).settings, guarded(house, guards).run(files).settings, guards)

    def test_all_conditions_together(self):
        """The four conditions, one by one, over languages and rules."""
        for equals, end, bare, nothing, layers, clears, empty, join in itertools.product(
                ("must", "may"), ("must", "between", "may"), (True, False), (True, False), (1, 2),
                ("clears", "lacks"), ("given", "lacks"), (True, False)):
            language = Language(equals=equals, end=end, bare=bare, nothing=nothing)
            house = standard(layers, language, (ROWS.changed(join=join), NOTE), nothing=clears, empty=empty)
            for guards in ([], ["equals"], ["equals", "bare"], ["equals", "between"], ["nothing"], ["nothing", "value"],
                           ["empty"], [("alone", "rows")]):
                loose = [guards[:1] == ["equals"] and equals == "may" and bare and end == "may" and len(guards) == 1,
                         guards[:1] == ["nothing"] and clears == "clears" and layers == 2 and nothing
                         and len(guards) == 1,
                         guards == ["empty"] and empty == "given", guards == [("alone", "rows")] and join
                         and layers == 2]
                self.check(house, guards, not any(loose))


if __name__ == "__main__":
    unittest.main()
