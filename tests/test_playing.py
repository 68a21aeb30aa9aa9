import random
import unittest

from samples import BUILDER_KINDS, TABLES, some_languages, some_rules, some_table_row, some_text
from slipreach.builder import Builder
from slipreach.conditions import parting
from slipreach.errors import BadBuilder, BadFiles, BadLayer, BadSlip, NotTaken, SettingsError, WrongTable
from slipreach.house import House, stage
from slipreach.kinds import Setting
from slipreach.language import Language
from slipreach.playing import FATES, fate_beside, parted, place_of, played
from slipreach.rowkinds import Table
from slipreach.rules import SlipRule
from slipreach.schema import Schema
from slipreach.slips import Slip
from slipreach.tokens import tokens
from slipreach.writer import plain

TABLE = Table(["owner"], ["size"])


def house_of(text="or owner in @rows\nor size below @most\ntake", layers=2, language=None, **rules):
    settings = [Setting("rows", "list", elders=("ids",), join=True), Setting("most", "number", default=3),
                Setting("mode", "choice", words=("even", "odd"))]
    kinds = {"rows": "list", "most": "number", "mode": "word"}
    return House(language or Language(), Schema(settings, **rules), Builder(text, TABLE, kinds), layers=layers)


def files_of(*texts):
    return [None if text is None else tokens(text) for text in texts]


def row(owner, size):
    return {"owner": owner, "size": size}


class Refusals(unittest.TestCase):
    def both(self, house, files, layer, slip):
        for call in (lambda: played(house, files, layer, slip), lambda: place_of(house, files, layer, slip),
                     lambda: fate_beside(house, files, layer, slip, row("a", 0))):
            yield call

    def check(self, error, part, wanted, *told):
        for call in self.both(*told):
            with self.assertRaises(error) as caught:
                call()
            self.assertEqual(getattr(caught.exception, part), wanted)

    def test_files_layers_slips(self):
        house, good, left = house_of(), files_of("rows = [a];", None), Slip("left", 0)
        bad = Slip("left", 99)
        for count in (0, 1, 3):
            self.check(BadFiles, "count", count, house, [["odd"]] * count, 9, bad)
        for text, word in [("rows", "reader"), ("odd = 1;", "schema")]:
            self.check(NotTaken, "stage", word, house, files_of(text, None), 9, bad)
        demanded = House(Language(), Schema([Setting("mode", "word", demand="top")]), Builder("take", TABLE, {}),
                         layers=2)
        self.check(NotTaken, "stage", "joining", demanded, files_of("mode = x;", None), 9, bad)
        refusing = house_of("refuse\ntake")
        self.check(NotTaken, "stage", "builder", refusing, good, 9, bad)
        for layer in (-1, 2, 9):
            self.check(BadLayer, "layer", layer, house, good, layer, bad)
        self.check(BadLayer, "layer", True, house, good, True, left)
        self.check(BadSlip, "at", 0, house, good, 1, left)
        self.check(BadSlip, "at", 99, house, good, 0, bad)
        self.check(BadSlip, "at", 5, house, good, 0, Slip("swapped", 5))
        self.check(BadSlip, "at", 3, house, good, 0, Slip("written", 3, "a"))
        self.check(BadSlip, "at", 6, house, good, 0, Slip("left", 6))


class Played(unittest.TestCase):
    def test_heard_at_each_stage(self):
        text = "if @mode is 'odd'\n  refuse\nor owner in @rows\ntake"
        language = Language(nothing=True)
        settings = [Setting("rows", "list", filled=True), Setting("most", "number"),
                    Setting("mode", "word", demand="some"),
                    Setting("note", "word", demand="top")]
        builder = Builder(text, TABLE, {"rows": "list", "mode": "word"})
        house = House(language, Schema(settings), builder, layers=2)
        files = files_of("rows = [a]; mode = even;", "most = 1; note = x;")
        for layer, slip, wanted in [(0, Slip("left", 1), ("reader", "Unreadable")),
                                    (0, Slip("written", 0, "row"), ("schema", "UnknownName")),
                                    (1, Slip("written", 0, "rows"), ("schema", "WrongKind")),
                                    (0, Slip("written", 6, "rows"), ("schema", "WrongKind")),
                                    (1, Slip("written", 4, "most"), ("schema", "WrongKind")),
                                    (0, Slip("left", 3), ("joining", "EmptyList")),
                                    (0, Slip("left", 8), ("joining", "Lacking")),
                                    (1, Slip("left", 6), ("joining", "TopLacking")),
                                    (0, Slip("written", 8, "odd"), ("builder", "Refused"))]:
            found = played(house, files, layer, slip)
            self.assertEqual((found.word, found.stage, found.error, found.more, found.less),
                             ("heard", *wanted, None, None))
            self.assertEqual(fate_beside(house, files, layer, slip, row("a", 0)), wanted[0])
        double = played(house, files_of("mode = a;", "note = x; most = 2;"), 1, Slip("written", 4, "note"))
        self.assertEqual((double.stage, double.error), ("schema", "WrongKind"))
        words = files_of("mode = a; note = b;", "note = x;")
        double = played(house, words, 0, Slip("written", 4, "mode"))
        self.assertEqual((double.word, double.stage, double.error), ("heard", "schema", "DoubledName"))

    def test_silent_and_harmless(self):
        house = house_of()
        files = files_of("rows = [a, b]; most = 5;", "rows = [a];")
        for layer, slip, taken, lost in [
                (0, Slip("written", 5, "c"), row("c", 9), row("b", 9)),
                (0, Slip("written", 10, "7"), row("z", 6), None),
                (0, Slip("written", 10, "2"), None, row("z", 3)), (0, Slip("written", 5, "a"), None, row("b", 9)),
                (0, Slip("written", 3, "b"), None, None), (1, Slip("written", 3, "b"), None, None)]:
            found = played(house, files, layer, slip)
            self.assertEqual((found.stage, found.error), (None, None))
            self.assertEqual(found.word, "harmless" if (taken, lost) == (None, None) else "silent")
            self.assertEqual((found.more is None, found.less is None), (taken is None, lost is None))
            before = house.run(files).condition
            after = house.run([slip(file) if at == layer else file for at, file in enumerate(files)]).condition
            for one, wanted in ((found.more, (False, True)), (found.less, (True, False))):
                if one is not None:
                    self.assertIn(one, TABLE)
                    self.assertEqual((before.takes(one), after.takes(one)), wanted)
            for one, fate in ((taken, "more"), (lost, "less"), (row("a", 0), "same"), (row("z", 99), "same")):
                if one is not None:
                    self.assertEqual(fate_beside(house, files, layer, slip, one), fate)

    def test_blank_conditions(self):
        house = house_of("or owner is @mode\ntake", layers=1, wrong="lack")
        files = files_of("mode = odd;")
        found = played(house, files, 0, Slip("written", 2, "other"))
        self.assertEqual((found.word, found.less), ("silent", None))
        self.assertNotEqual(found.more["owner"], "odd")
        other = played(house, files_of("mode = other;"), 0, Slip("written", 2, "even"))
        self.assertEqual((other.word, other.more), ("silent", None))
        every = house_of("if no given @mode\n  or every\ntake", layers=1, wrong="lack")
        self.assertEqual(played(every, files, 0, Slip("written", 2, "other")).word, "harmless")

    def test_parted(self):
        one, other = house_of().run(files_of("rows = [a];", None)), house_of().run(files_of("rows = [b];", None))
        more, less = parted(one, other)
        self.assertEqual((more["owner"], less["owner"], more["size"] >= 3, less["size"] >= 3), ("b", "a", True, True))
        self.assertEqual(parted(one, one), (None, None))
        plain_house = House(Language(), Schema([Setting("a", "word")]), Builder("take", Table(["owner"]), {}))
        with self.assertRaises(WrongTable):
            parted(one, plain_house.run([None]))

    def test_random_houses(self):
        chance = random.Random(151)
        languages, words, fates = some_languages(40, 151), [], set()
        while len(words) < 2500:
            table, language = chance.choice(TABLES), chance.choice(languages)
            settings = [Setting("w", "word", demand=chance.choice(["no", "some"])),
                        Setting("v", "choice", words=("a", "c")), Setting("n", "number", default=4),
                        Setting("ids", "list", join=chance.random() < 0.5, default=chance.choice([None, ("a",)]))]
            try:
                kinds = {name: BUILDER_KINDS[name] for name in ("w", "v", "n", "ids")}
                builder = Builder(some_text(chance, table, lists=("ids",)), table, kinds)
            except BadBuilder:
                continue
            house = House(language, Schema(settings, **some_rules(chance)), builder, layers=chance.randint(1, 2))
            values = ["b", "a", "c", 0, 4, (), ("a",), ("all", "b")] + [None] * language.nothing
            rows = [[(chance.choice(settings).name, chance.choice(values)) for _ in range(chance.randint(1, 3))]
                    for _ in range(house.layers)]
            files = [plain(language, row) for row in rows]
            try:
                before = house.run(files)
            except SettingsError:
                continue
            rule = chance.choice([SlipRule.every(), SlipRule("word", "number", "left")])
            slips = list(rule.slips(files[0], words=["b", "a", "w", "ids"], numbers=["0", "5"]))
            for slip in chance.sample(slips, min(len(slips), 8)):
                self.check_one(chance, house, files, slip, before, words, fates)
        self.assertLessEqual(set(FATES) - {"builder"}, fates)
        for word in ("heard", "harmless", "silent"):
            self.assertGreater(words.count(word), 20)

    def check_one(self, chance, house, files, slip, before, words, fates):
        found = played(house, files, 0, slip)
        words.append(found.word)
        one = some_table_row(chance, house.builder.table)
        fate = fate_beside(house, files, 0, slip, one)
        fates.add(fate)
        try:
            after = house.run([slip(files[0]), *files[1:]])
        except SettingsError as error:
            self.assertEqual((found.word, found.stage, found.error), ("heard", stage(error), error.__class__.__name__))
            self.assertEqual((fate, found.more, found.less), (stage(error), None, None))
            return
        rows = parting(before.condition, after.condition)
        self.assertEqual((found.more is None, found.less is None), (rows[0] is None, rows[1] is None))
        self.assertEqual(found.word, "harmless" if rows == (None, None) else "silent")
        self.assertEqual(fate, {(True, True): "same", (False, False): "same", (False, True): "more",
                                (True, False): "less"}[
            (before.condition.takes(one), after.condition.takes(one))])


class Places(unittest.TestCase):
    def test_fates_in_order(self):
        self.assertEqual(FATES, ("reader", "schema", "joining", "builder", "same", "more", "less"))

    def test_each_role(self):
        language = Language(comma="joins", last="may", bare=True)
        files = files_of("most = 3;", "ids = [a b, c,]; other = odd; most = 4; mode; odd = [];")
        wanted = [("name", "rows"), ("equals", "rows"), ("open", "rows"), ("item", "rows"), ("item", "rows"),
                  ("comma", "rows"),
                  ("item", "rows"), ("comma", "rows"), ("close", "rows"), ("end", "rows"), ("name", ""), ("equals", ""),
                  ("word", ""),
                  ("end", ""), ("name", "most"), ("equals", "most"), ("number", "most"), ("end", "most")]
        schema = Schema(list(house_of().schema)[:2], unknown="pass")
        house = House(language, schema, Builder("take", TABLE, {}), layers=2)
        for at, (role, name) in enumerate(wanted):
            for slip in (Slip("left", at), Slip("doubled", at), Slip("written", at, "zzz")):
                self.assertEqual(place_of(house, files, 1, slip), (slip.kind, 1, role, name))
        self.assertEqual(place_of(house, files, 0, Slip("swapped", 1)), ("swapped", 0, "equals", "most"))
        self.assertEqual(place_of(house, files, 1, Slip("left", 18)), ("left", 1, "name", ""))
        self.assertEqual(place_of(house, files, 1, Slip("left", 19)), ("left", 1, "end", ""))


if __name__ == "__main__":
    unittest.main()
