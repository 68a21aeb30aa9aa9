import unittest

from slipreach.builder import Builder
from slipreach.conditions import Condition
from slipreach.errors import (BadFiles, BadHouse, BadSlip, DoubledName, EmptyList, Lacking, NoSetting, NotTaken,
                              Refused,
                              SettingsError, TopLacking, UnknownName, Unreadable, WrongKind)
from slipreach.house import House, Plan, stage, weight
from slipreach.kinds import Setting
from slipreach.language import Language
from slipreach.rowkinds import Table
from slipreach.schema import Schema
from slipreach.tokens import tokens

TABLE = Table(["owner"], ["size"])
TEXT = "if @mode is 'odd'\n  refuse\nor owner in @rows\nor size below @most\ntake"
KINDS = {"mode": "word", "rows": "list", "most": "number", "note": "word"}
SETTINGS = [Setting("mode", "choice", words=("even", "odd"), elders=("kind",)),
            Setting("rows", "list", join=True, filled=True),
            Setting("most", "number", default=3), Setting("note", "word", demand="some")]
BUILDER = Builder(TEXT, TABLE, KINDS)


def house_of(layers=1, language=None, settings=None, **rules):
    return House(language or Language(comma="joins", last="may"), Schema(settings or SETTINGS, **rules), BUILDER,
                 layers=layers)


def files_of(*texts):
    return [None if text is None else tokens(text) for text in texts]


class Houses(unittest.TestCase):
    def test_attributes(self):
        language, schema = Language(bare=True), Schema(SETTINGS)
        for layers in (1, 2, 3):
            house = House(language, schema, BUILDER, layers=layers)
            self.assertEqual((house.language, house.schema, house.layers), (language, schema, layers))
            self.assertIs(house.builder, BUILDER)
        self.assertEqual(House(language, schema, BUILDER).layers, 1)
        self.assertEqual(House(language, schema, Builder("take", TABLE, {})).layers, 1)

    def test_bad_houses(self):
        good = {"mode": "word", "note": "word", "rows": "list", "most": "number"}
        for kinds, is_good in [(good, True), ({"rows": "list"}, True), ({**good, "zzz": "word"}, False),
                               ({"kind": "word"}, False),
                               ({"mode": "list"}, False), ({"mode": "number"}, False), ({"note": "list"}, False),
                               ({"rows": "word"}, False), ({"rows": "number"}, False), ({"most": "word"}, False),
                               ({"most": "list"}, False)]:
            builder = Builder("take", TABLE, kinds)
            if is_good:
                self.assertIs(House(Language(), Schema(SETTINGS), builder).builder, builder)
                continue
            with self.assertRaises(BadHouse) as caught:
                House(Language(), Schema(SETTINGS), builder, layers=3)
            self.assertEqual(caught.exception.what, "builder")
        for layers in (0, 4, -1, True, False, None, "1", 1.0, [1]):
            for builder in (BUILDER, Builder("take", TABLE, {"odd": "word"})):
                with self.assertRaises(BadHouse) as caught:
                    House(Language(), Schema(SETTINGS), builder, layers=layers)
                self.assertEqual(caught.exception.what, "layers")


class Runs(unittest.TestCase):
    def test_what_is_joined_and_built(self):
        house = house_of(2)
        plan = house.run(files_of("rows = [a, b c]; most = 5;", "note = x; rows = [d];"))
        self.assertIsInstance(plan, Plan)
        self.assertEqual(plan.settings, {"rows": ("a", "b c", "d"), "most": 5, "note": "x"})
        self.assertEqual(list(plan.settings), ["rows", "most", "note"])
        wanted = Condition.test(TABLE, "size", "below", 5)
        for word in ("a", "b c", "d"):
            wanted = wanted | Condition.test(TABLE, "owner", "is", word)
        self.assertTrue(plan.condition == wanted)

    def test_the_number_of_files(self):
        for layers in (1, 2, 3):
            for count in range(5):
                if count != layers:
                    with self.assertRaises(BadFiles) as caught:
                        house_of(layers).run([["odd"]] * count)
                    self.assertEqual(caught.exception.count, count)
                    with self.assertRaises(BadFiles) as caught:
                        weight(house_of(layers), [["odd"]] * count)
                    self.assertEqual(caught.exception.count, count)

    def test_the_first_error(self):
        house = house_of(2)
        top = house_of(2, settings=[SETTINGS[0], SETTINGS[1].changed(demand="top"), *SETTINGS[2:]])
        for one, texts, error in [
                (house, ("odd = 1;", "note ="), Unreadable), (house, ("note", "rows"), Unreadable),
                (house, ("odd = 1;", "most = a;"), UnknownName), (house, (None, "most = a; odd = 1;"), WrongKind),
                (house, ("mode = odd; kind = even;", "odd = 1;"), DoubledName), (top, ("rows = [];", None), TopLacking),
                (house, ("rows = [];", "mode = odd;"), EmptyList), (house, ("mode = odd;", None), Lacking),
                (house, ("mode = odd;", "note = x;"), Refused)]:
            with self.assertRaises(error):
                one.run(files_of(*texts))
        with self.assertRaises(Unreadable) as caught:
            house.run(files_of("note", "rows = [ 4"))
        self.assertEqual((caught.exception.at, caught.exception.awaited), (1, ("=",)))
        with self.assertRaises(UnknownName) as caught:
            house.run(files_of("note = a; odd = b;", "other = c;"))
        self.assertEqual((caught.exception.entry, caught.exception.word), (1, "odd"))
        with self.assertRaises(Refused) as caught:
            house.run(files_of("mode = odd; note = x;", None))
        self.assertEqual(caught.exception.line, 1)

    def test_files_are_not_changed(self):
        files = files_of("note = x;", None)
        house_of(2).run(files)
        self.assertEqual(files, [["note", "=", "x", ";"], None])
        self.assertTrue(house_of(2).run(tuple(files)).condition == house_of(2).run(files).condition)

    def test_a_builder_that_reads_nothing(self):
        house = House(Language(), Schema(SETTINGS), Builder("take", TABLE, {}))
        self.assertTrue(house.run(files_of("note = x;")).condition.blank)


class Plans(unittest.TestCase):
    def setUp(self):
        self.plan = house_of(2).run(files_of("rows = [a];", "note = x;"))

    def test_settings_are_new(self):
        settings = self.plan.settings
        settings["mode"] = "odd"
        del settings["rows"]
        self.assertEqual(self.plan.settings, {"rows": ("a",), "most": 3, "note": "x"})
        self.assertIsNot(self.plan.settings, self.plan.settings)

    def test_the_condition_is_the_same(self):
        self.assertIs(self.plan.condition, self.plan.condition)

    def test_items(self):
        self.assertEqual([self.plan[name] for name in ("rows", "most", "note", "mode")], [("a",), 3, "x", None])
        for thing in ("kind", "odd", "", None, 0, True, ("rows",), ["rows"]):
            with self.assertRaises(NoSetting) as caught:
                self.plan[thing]
            self.assertIs(caught.exception.name, thing)
            self.assertIs(thing in self.plan, False)
        self.assertEqual([name in self.plan for name in ("rows", "most", "note", "mode")], [True, True, True, False])


class Stages(unittest.TestCase):
    def test_each_error(self):
        for error, word in [(Unreadable(1, ()), "reader"), (UnknownName(0, "a"), "schema"),
                            (WrongKind(0, "a"), "schema"),
                            (DoubledName(0, "a"), "schema"), (TopLacking("a"), "joining"), (Lacking("a"), "joining"),
                            (EmptyList("a"), "joining"), (Refused(2), "builder")]:
            self.assertEqual(stage(error), word)
        for thing in (None, "reader", 3, SettingsError(), BadFiles(1), BadSlip(0), NotTaken("reader"), NoSetting("a"),
                      ValueError(), KeyError("a"), Unreadable, (Refused(2),)):
            self.assertIsNone(stage(thing))


class Weights(unittest.TestCase):
    def test_entries_and_items(self):
        house = house_of(3)
        for texts, wanted in [((None, None, None), 0), (("", None, ""), 0), (("note = x;", None, None), 1),
                              (("rows = [];", None, "odd = [a, b c, d,];"), 5),
                              (("most = a; most = 7;", "rows = [a a];", "a = 12;"), 5)]:
            self.assertEqual(weight(house, files_of(*texts)), wanted)

    def test_errors(self):
        with self.assertRaises(Unreadable) as caught:
            weight(house_of(2), files_of("note = x;", "note"))
        self.assertEqual((caught.exception.at, caught.exception.awaited), (1, ("=",)))


if __name__ == "__main__":
    unittest.main()
