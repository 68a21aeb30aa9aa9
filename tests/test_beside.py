import random
import unittest

from houses import FileMaker, house_of, many_house, some_house, some_rule
from slipreach.beside import Beside, told_numbers, told_words
from slipreach.conducts import conduct
from slipreach.errors import NoSetting, TooManyConducts
from slipreach.kinds import Setting
from slipreach.language import Language
from slipreach.reader import read
from slipreach.rowkinds import Table
from slipreach.rules import SlipRule

TEXT = "for @rows\n  if item is 'all'\n    break\n  or owner is item\nif @most below 7\n  and owner is 'x_y'\ntake"
ROWS = Setting("rows", "list", default=("p", "q"), elders=("lines",))
MOST = Setting("most", "number", default=3)
MODE = Setting("mode", "choice", words=("odd", "even"))
NOTE = Setting("note", "word", default="none")


def standard(**more):
    return house_of([ROWS, MOST, MODE, NOTE], TEXT, **more)


class Told(unittest.TestCase):
    def test_words(self):
        rule = SlipRule(looks=[("l", "1"), ("0", "5"), (";", "z"), ("=", ",")])
        self.assertEqual(told_words(standard(), rule),
                         sorted(["yes", "rows", "lines", "most", "mode", "note", "odd", "even", "p", "q", "none", "all",
                                 "x y", "x", "y", "l", "z"]))
        self.assertEqual(told_numbers(standard(), rule), [0, 1, 3, 5, 7])

    def test_each_source(self):
        least = [Setting("a", "number")]
        self.assertEqual(told_words(house_of(least, "take"), SlipRule()), ["a", "yes"])
        self.assertEqual(told_numbers(house_of(least, "take"), SlipRule.every()), [0])
        for settings, text, words, numbers in [
                ([Setting("a", "number", elders=("b", "c"))], "take", ["b", "c"], []),
                ([Setting("a", "choice", words=("d", "e"))], "take", ["d", "e"], []),
                ([Setting("a", "word", default="f")], "take", ["f"], []),
                ([Setting("a", "list", default=("g", "h", "g"))], "take", ["g", "h"], []),
                ([Setting("a", "list", default=())], "take", [], []),
                ([Setting("a", "number", default=9)], "take", [], [9]),
                (least, "or owner is 'i'\nor owner is 'j_k'\ntake", ["i", "j k", "j", "k"], []),
                (least, "if @a is 4\n  or every\nif @a below 0\n  clear\ntake", [], [4])]:
            house = house_of(settings, text)
            self.assertEqual(told_words(house, SlipRule()), sorted({"a", "yes", *words}))
            self.assertEqual(told_numbers(house, SlipRule()), sorted({0, *numbers}))
        looks = SlipRule(looks=[("m", "n"), ("12", "="), ("o", "0")])
        self.assertEqual(told_words(house_of(least, "take"), looks), ["a", "m", "n", "o", "yes"])
        self.assertEqual(told_numbers(house_of(least, "take"), looks), [0, 12])


class BesideRows(unittest.TestCase):
    def test_attributes(self):
        row = {"owner": "a u"}
        house = standard()
        beside = Beside(house, SlipRule(), row)
        self.assertIs(beside.house, house)
        self.assertEqual(beside.words, tuple(sorted([*told_words(house, SlipRule()), "a u", "a", "u"])))
        self.assertEqual((beside.numbers, beside.fresh, beside.row), ((0, 3, 7), "b", row))
        row["owner"] = "z"
        self.assertEqual(beside.row, {"owner": "a u"})
        numbers = house_of([MOST], "take", Table(["owner"], ["size"]))
        self.assertEqual(Beside(numbers, SlipRule(), {"owner": "yes", "size": 10 ** 10}).numbers, (0, 3, 10 ** 10))
        self.assertEqual(Beside(numbers, SlipRule(), {"owner": "yes", "size": 3}).numbers, (0, 3))

    def test_fresh_words(self):
        alphabet = "abcdefghijklmnopqrstuvwxyz"
        settings = [Setting("a", "list", default=tuple("bcdefghi")), Setting("j", "list", default=tuple("klmnopqr")),
                    Setting("s", "list", default=tuple("tuvwxyz"))]
        self.assertEqual(set(alphabet) - set(told_words(house_of(settings, "take"), SlipRule())), set())
        self.assertEqual(Beside(house_of(settings, "take"), SlipRule(), {"owner": "aa"}).fresh, "ab")
        self.assertEqual(Beside(house_of(settings, "take"), SlipRule(), {"owner": "ab"}).fresh, "aa")

    def test_plain_values(self):
        beside = Beside(standard(), SlipRule(), {"owner": "b"})
        for name in ("rows", "most", "mode", "note"):
            self.assertIsNone(beside.plain_value(name, None))
        for name, value, wanted in [
                ("rows", "a", 0), ("rows", 5, 0), ("mode", "x", 0), ("mode", 3, 0), ("mode", ("odd",), 0),
                ("note", 4, 0), ("note", (), 0), ("most", "odd", "a"), ("most", (), "a"), ("most", ("b",), "a"),
                ("mode", "odd", "odd"), ("note", "b", "b"), ("note", "odd", "odd"), ("note", "zz", "a"),
                ("note", "a", "a"), ("most", 0, 0), ("most", 3, 3), ("most", 7, 7), ("most", 2, 1), ("most", 1, 1),
                ("most", 5, 4), ("most", 6, 4), ("most", 10 ** 11, 8), ("most", 8, 8)]:
            self.assertEqual(beside.plain_value(name, value), wanted, (name, value))

    def test_plain_lists(self):
        beside = Beside(standard(), SlipRule(), {"owner": "b"})
        # Ahead of `all` stand `a` (fresh) and others that are no owner; the first of these is "b", the row's own.
        for value, wanted in [((), ()), (("b",), ("b",)), (("zz",), ("even",)), (("zz", "b"), ("b",)),
                              (("b", "zz"), ("b",)), (("all",), ("all",)), (("all", "b"), ("all",)),
                              (("zz", "all"), ("even", "all")), (("b", "all", "b"), ("b", "all"))]:
            self.assertEqual(beside.plain_value("rows", value), wanted, value)
        unread = Beside(house_of([ROWS], "take"), SlipRule(), {"owner": "b"})
        self.assertEqual([unread.plain_value("rows", value) for value in [(), ("zz",), ("b", "c")]],
                         [(), ("b",), ("b",)])

    def test_pairs(self):
        settings = [Setting("rows", "list")]
        text = "for @rows\n  or owner is item\ntake"
        for comma, pairs in (("must", False), ("may", False), ("joins", True)):
            house = house_of(settings, text, language=Language(comma=comma))
            beside = Beside(house, SlipRule(), {"owner": "b c"})
            self.assertEqual(beside.words, ("b", "b c", "c", "rows", "yes"))
            self.assertEqual(beside.letters("rows"), [(), ("b",), ("b c",)] if pairs else [(), ("b",)])
            if pairs:
                self.assertEqual(beside.plain_value("rows", ("c", "b c")), ("b c",))
                self.assertEqual(beside.plain_value("rows", ("c b",)), ("b",))

    def test_letters(self):
        house = standard()
        beside = Beside(house, SlipRule(), {"owner": "b"})
        lists = [(), ("all",), ("b",), ("even",), ("b", "all"), ("even", "all")]
        self.assertEqual(beside.letters("rows"), lists)
        self.assertEqual(beside.letters("mode"), ["odd", "even"])
        self.assertEqual(beside.letters("most"), [0, 1, 3, 4, 7, 8])
        singles = [word for word in beside.words if " " not in word]
        self.assertEqual(beside.letters("note"), [*singles, "a"])
        more = Beside(standard(wrong="lack", language=Language(nothing=True)), SlipRule(), {"owner": "b"})
        self.assertEqual(more.letters("rows"), [None, *lists, 0])
        self.assertEqual(more.letters("mode"), [None, "odd", "even", 0])
        self.assertEqual(more.letters("most"), [None, 0, 1, 3, 4, 7, 8, "a"])
        self.assertEqual(more.letters("note"), [None, *singles, "a", 0])

    def test_greatest_numbers(self):
        last = str(10 ** 12 - 1)
        beside = Beside(house_of([MOST], "take"), SlipRule(looks=[("1", last)]), {"owner": "b"})
        self.assertEqual(beside.letters("most"), [0, 1, 2, 3, 4, 10 ** 12 - 1])

    def test_no_setting(self):
        beside = Beside(standard(), SlipRule(), {"owner": "b"})
        for name in ("lines", "odd", "", None, 3, ("rows",)):
            with self.assertRaises(NoSetting) as caught:
                beside.letters(name)
            self.assertEqual(caught.exception.name, name)
            with self.assertRaises(NoSetting):
                beside.plain_value(name, None)

    def test_too_many_conducts(self):
        beside = Beside(many_house(), SlipRule(), {"owner": "p", "maker": "q"})
        for call in (lambda: beside.letters("ids"), lambda: beside.plain_value("ids", ("p",)),
                     lambda: beside.plain_value("ids", ())):
            with self.assertRaises(TooManyConducts) as caught:
                call()
            self.assertEqual(caught.exception.most, 60)
        self.assertIsNone(beside.plain_value("ids", None))
        self.assertEqual(beside.plain_value("ids", "p"), 0)
        self.assertIn("p", beside.letters("note"))

    def test_plain_values_are_alike(self):
        """Random values: the plain one is of the same sort, fixed, and a letter."""
        for seed in range(150):
            chance = random.Random(seed)
            house, rule = some_house(chance), some_rule(chance)
            maker = FileMaker(chance, house, rule)
            try:
                beside = Beside(house, rule, maker.row())
                letters = {name: beside.letters(name) for name in house.schema.names}
            except TooManyConducts:
                continue
            for _ in range(20):
                file = maker.file()
                for word, value in read(house.language, file) if file is not None else []:
                    name = house.schema.called(word)
                    if name is None:
                        continue
                    plain = beside.plain_value(name, value)
                    self.assertEqual(beside.plain_value(name, plain), plain)
                    fits = house.schema.fits(name, value)
                    self.assertEqual(house.schema.fits(name, plain), fits)
                    if fits or house.schema.wrong == "lack":
                        self.assertIn(plain, letters[name])
                    if fits and value is not None and house.schema.setting(name).kind == "list":
                        both = [conduct(house.builder, beside.row, name, one) for one in (value, plain)]
                        self.assertEqual(both[0].key, both[1].key)
                        self.assertLessEqual(len(plain), len(value))
                    elif fits and value is not None and name in house.builder.names:
                        one, two = [house.builder.outcome(beside.row, {name: worth}) for worth in (value, plain)]
                        self.assertEqual(one, two)


if __name__ == "__main__":
    unittest.main()
