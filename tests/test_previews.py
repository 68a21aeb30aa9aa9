import itertools
import random
import unittest

from houses import FileMaker, files_of, house_of, some_house, some_rule
from slipreach.errors import BadFiles, BadPreview, NotTaken
from slipreach.kinds import Setting
from slipreach.language import Language
from slipreach.playing import played, tried
from slipreach.previews import Preview, SilentSlip, least_previews, silent_slips
from slipreach.rules import SlipRule
from slipreach.slips import Slip

ROWS = Setting("rows", "list", elders=("lines",))
NOTE = Setting("note", "word")
MOST = Setting("most", "number")
TEXT = "for @rows\n  or owner is item\nor owner is @note\ntake"


def standard(**more):
    return house_of([ROWS, NOTE, MOST], TEXT, **more)


class Previews(unittest.TestCase):
    def test_names(self):
        house = standard()
        preview = Preview(house, "most", "rows", "most")
        self.assertEqual((preview.names, list(preview), len(preview)), (("rows", "most"), ["rows", "most"], 2))
        self.assertTrue("rows" in preview and "most" in preview)
        self.assertFalse("note" in preview or "lines" in preview or "odd" in preview)
        self.assertEqual((Preview(house).names, len(Preview(house))), ((), 0))

    def test_equal_and_both(self):
        house, other = standard(), standard(layers=2)
        self.assertTrue(Preview(house, "rows", "note") == Preview(other, "note", "rows"))
        self.assertFalse(Preview(house, "rows") == Preview(house, "note"))
        self.assertFalse(Preview(house) == () or Preview(house, "rows") == ("rows",) or Preview(house) == None)  # noqa
        both = Preview(house, "most") | Preview(house, "rows", "most")
        self.assertEqual(both.names, ("rows", "most"))
        self.assertEqual((Preview(house) | Preview(house)).names, ())

    def test_bad_names(self):
        for names, bad in [(["lines"], "lines"), (["rows", "odd", "lines"], "odd"), ([3], 3), (["rows", None], None),
                           (["rows", ["rows"]], ["rows"]), ([("rows",)], ("rows",)), ([""], "")]:
            with self.assertRaises(BadPreview) as caught:
                Preview(standard(), *names)
            self.assertEqual(caught.exception.name, bad)

    def test_lines(self):
        house = standard(language=Language(comma="joins"), layers=2)
        preview = Preview(house, "note", "most", "rows")
        for texts, wanted in [
                (("rows = [a, b c]; most = 12;", None),
                 ["rows         = [a, b c]", "note         = -", "most         = 12"]),
                (("rows = []; note = yes;", "note = x;"),
                 ["rows         = []", "note         = x", "most         = -"])]:
            self.assertEqual(preview(house.run(files_of(*texts))), wanted)
        self.assertEqual(Preview(house)(house.run([None, None])), [])
        long = house_of([Setting("abcdefghijkl", "word")], "take")
        self.assertEqual(Preview(long, "abcdefghijkl")(long.run(files_of("abcdefghijkl = a;"))), ["abcdefghijkl = a"])

    def test_changed(self):
        house = standard()
        one, other = [house.run(files_of(text)) for text in ("rows = [a]; note = x;", "rows = [a, b]; note = x;")]
        none = house.run([None])
        preview = Preview(house, "most", "note", "rows")
        self.assertEqual(preview.changed(one, one), [])
        self.assertEqual(preview.changed(one, other), ["rows"])
        self.assertEqual(preview.changed(one, none), ["rows", "note"])
        self.assertEqual(Preview(house, "note").changed(one, other), [])


class SilentSlips(unittest.TestCase):
    def test_a_few(self):
        house = standard(layers=2)
        files = files_of("rows = [a]; most = 1;", "note = x;")
        found = silent_slips(house, SlipRule("left", "word"), files, words=("b", "note"))
        self.assertEqual([type(one) for one in found], [SilentSlip] * len(found))
        self.assertEqual([(one.layer, one.slip.kind, one.slip.at, one.slip.token, one.names) for one in found], [
            (0, "left", 3, None, ("rows",)), (0, "written", 3, "b", ("rows",)),
            (0, "written", 3, "note", ("rows",)), (1, "written", 2, "b", ("note",)),
            (1, "written", 2, "note", ("note",))])
        self.assertEqual((found[0].more, found[0].less), (None, {"owner": "a"}))
        self.assertEqual((found[1].more, found[1].less), ({"owner": "b"}, {"owner": "a"}))
        more = silent_slips(house, SlipRule("left", "word"), files, words=("b", "note"), goal="more")
        self.assertEqual([one.slip for one in more], [one.slip for one in found[1:]])
        self.assertEqual(silent_slips(house, SlipRule("left"), [None, None]), [])

    def test_numerals(self):
        house = house_of([MOST], "if @most below 3\n  or none\ntake")
        found = silent_slips(house, SlipRule("number", "word"), files_of("most = 1;"), numbers=["2", "3", "17"])
        self.assertEqual([(one.slip.at, one.slip.token, one.names) for one in found],
                         [(2, "3", ("most",)), (2, "17", ("most",))])
        self.assertTrue(all(one.more is not None and one.less is None for one in found))

    def test_not_taken(self):
        house = standard()
        for call in (silent_slips, least_previews):
            with self.assertRaises(NotTaken) as caught:
                call(house, SlipRule("left"), files_of("odd = 1;"))
            self.assertEqual(caught.exception.stage, "schema")
            with self.assertRaises(BadFiles):
                call(house, SlipRule("left"), [None, None])

    def test_unseen(self):
        house = standard()
        slips = silent_slips(house, SlipRule("word"), files_of("rows = [a]; note = x;"), words=["b"])
        self.assertEqual([one.names for one in slips], [("rows",), ("note",)])
        self.assertEqual(Preview(house, "most").unseen(slips), slips)
        self.assertEqual(Preview(house, "rows").unseen(slips), slips[1:])
        self.assertEqual(Preview(house, "rows", "note").unseen(slips), [])
        self.assertEqual(Preview(house).unseen([]), [])

    def test_least_previews(self):
        house = standard()
        rule, files = SlipRule("word"), files_of("rows = [a]; note = x;")
        found = least_previews(house, rule, files, words=["b"])
        self.assertEqual([preview.names for preview in found], [("rows", "note")])
        self.assertEqual([preview.names for preview in least_previews(house, rule, files)], [()])
        joint = house_of([Setting("p", "word"), Setting("q", "word")], "or owner is @p\nor owner is @q\ntake",
                         unknown="pass", doubled="last")
        found = least_previews(joint, SlipRule("word"), files_of("p = a;"), words=["q"])
        self.assertEqual([preview.names for preview in found], [("p",)])
        moved = least_previews(joint, SlipRule(looks=[("p", "q")]), files_of("p = a; q = b;"))
        self.assertEqual([preview.names for preview in moved], [("p",), ("q",)][:len(moved)])

    def test_random_houses(self):
        count = 0
        for seed in range(120):
            chance = random.Random(seed)
            house, rule = some_house(chance), some_rule(chance)
            maker = FileMaker(chance, house, rule)
            files = maker.files()
            while None in [file for file in files if file is not None] or tried(house, files)[0] is None:
                files = maker.files()
                if chance.random() < 0.02:
                    break
            if tried(house, files)[0] is None:
                continue
            words, numbers = chance.sample(maker.words, 2), [str(maker.numbers[-1])]
            for goal in ("any", "more"):
                slips = silent_slips(house, rule, files, words=words, numbers=numbers, goal=goal)
                wanted = []
                for layer, file in enumerate(files):
                    for slip in rule.slips(file, words=words, numbers=numbers) if file is not None else []:
                        found = played(house, files, layer, slip)
                        if found.word == "silent" and (goal == "any" or found.more is not None):
                            wanted.append((layer, slip, found.more, found.less))
                self.assertEqual([(one.layer, one.slip, one.more, one.less) for one in slips], wanted)
                for one in slips:
                    before = house.run(files).settings
                    after = house.run([one.slip(file) if at == one.layer else file
                                       for at, file in enumerate(files)]).settings
                    self.assertEqual(one.names, tuple(name for name in house.schema.names
                                                      if before.get(name) != after.get(name)))
                count += len(slips)
                rows = [names for size in range(len(house.schema) + 1)
                        for names in itertools.combinations(house.schema.names, size)
                        if not Preview(house, *names).unseen(slips)]
                least = [names for names in rows if not any(set(other) < set(names) for other in rows)]
                found = least_previews(house, rule, files, words=words, numbers=numbers, goal=goal)
                self.assertEqual([preview.names for preview in found], least)
        self.assertGreater(count, 50)


if __name__ == "__main__":
    unittest.main()
