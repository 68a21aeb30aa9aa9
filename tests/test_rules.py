import itertools
import types
import unittest

from slipreach.errors import BadRule
from slipreach.rules import SlipRule
from slipreach.slips import Slip

WORDS = ("left", "doubled", "swapped", "word", "number", "sign")
LOOKS = (("=", ";"), ("a", "="), ("a", "b"), ("b", "a"), ("l", "1"))


def told(slips):
    return [(slip.kind, slip.at) if slip.token is None else (slip.kind, slip.at, slip.token) for slip in slips]


class Parts(unittest.TestCase):
    def test_attributes(self):
        rule = SlipRule("sign", "left", "sign", looks=[("b", "a"), ("a", "b"), ("b", "a")])
        self.assertEqual(rule.kinds, ("left", "sign"))
        self.assertEqual(rule.looks, (("a", "b"), ("b", "a")))
        self.assertEqual((SlipRule().kinds, SlipRule().looks), ((), ()))
        self.assertEqual(SlipRule.every().kinds, WORDS)
        self.assertEqual(SlipRule.every().looks, ())
        self.assertEqual(SlipRule(looks=tuple(reversed(LOOKS))).looks, LOOKS)

    def test_looks_are_copied(self):
        looks = [("a", "b")]
        rule = SlipRule(looks=looks)
        looks.append(("b", "a"))
        self.assertEqual(rule.looks, (("a", "b"),))

    def test_wrong_parts(self):
        for kind in ["", "written", "Left", None, 1, ["left"], ("a", "b"), True, {}]:
            self.fails(kind, "left", kind, "odd")
        for look in ["ab", ("a",), ("a", "a"), ("a", "b", "c"), ["a", "b"], ("a", "A"), (1, 2), ("a b", "c"),
                     ("01", "a"), None, ("a", None), ("==", "=")]:
            self.fails(look, "left", looks=[("a", "b"), look, None])
        self.fails("odd", "left", "odd", looks=[None])
        self.fails("odd", "odd", "even", looks=["x"])

    def fails(self, worth, *kinds, looks=()):
        with self.assertRaises(BadRule) as caught:
            SlipRule(*kinds, looks=looks)
        self.assertIs(caught.exception.worth, worth)

    def test_operators(self):
        sets = [set(), {"left"}, {"left", "sign", ("a", "b")}, {("a", "b"), ("b", "a")}, set(WORDS), {"word", ("a", "=")}]
        for one, other in itertools.product(sets, sets):
            first, second = self.rule(one), self.rule(other)
            self.assertEqual(first | second, self.rule(one | other))
            self.assertEqual(first & second, self.rule(one & other))
            self.assertEqual(first - second, self.rule(one - other))
            self.assertIs(first.within(second), one <= other)
            self.assertIs(first == second, one == other)
            self.assertEqual(len(first), len(one))
            self.assertEqual((first, second), (self.rule(one), self.rule(other)))

    def rule(self, parts):
        return SlipRule(*[part for part in parts if isinstance(part, str)],
                        looks=[part for part in parts if isinstance(part, tuple)])

    def test_membership(self):
        rule = SlipRule("left", "word", looks=[("a", "b")])
        for thing in ["left", "word", ("a", "b")]:
            self.assertIn(thing, rule)
        for thing in ["sign", "a", ("b", "a"), ["a", "b"], None, 0, (), "", {"left"}, object()]:
            self.assertNotIn(thing, rule)

    def test_equality_with_other_objects(self):
        for thing in [None, (), "left", ("left",), 1]:
            self.assertFalse(SlipRule("left") == thing)


class Allowed(unittest.TestCase):
    FILE = ["a", "=", "12", ";", ";", "b"]

    def test_kinds(self):
        for kind in ("left", "doubled", "swapped"):
            for word in WORDS:
                self.assertIs(SlipRule(word).allows(self.FILE, Slip(kind, 0)), kind == word)
            self.assertIs(SlipRule.every().allows(self.FILE, Slip(kind, 6)), False)
        self.assertIs(SlipRule.every().allows(self.FILE, Slip("swapped", 3)), False)
        self.assertIs(SlipRule.every().allows(self.FILE, Slip("swapped", 5)), False)
        self.assertIs(SlipRule("left").allows(tuple(self.FILE), Slip("left", 5)), True)

    def test_written(self):
        cases = [(0, "c", "word"), (5, "a", "word"), (2, "0", "number"), (1, ";", "sign"), (4, "[", "sign")]
        for at, token, wanted in cases:
            for word in WORDS:
                self.assertIs(SlipRule(word).allows(self.FILE, Slip("written", at, token)), word == wanted)
        for at, token in [(0, "="), (0, "1"), (1, "a"), (2, "a"), (3, "1")]:
            self.assertIs(SlipRule.every().allows(self.FILE, Slip("written", at, token)), False)
        self.assertIs(SlipRule.every().allows(self.FILE, Slip("written", 0, "a")), False)
        self.assertIs(SlipRule.every().allows(self.FILE, Slip("written", 6, "a")), False)

    def test_looks(self):
        rule = SlipRule(looks=[("a", "="), ("12", "a"), ("=", "12"), ("a", "b")])
        for at, token, wanted in [(0, "=", True), (0, "b", True), (2, "a", True), (1, "12", True),
                                  (5, "=", False), (5, "a", False), (2, "1", False), (1, ";", False)]:
            self.assertIs(rule.allows(self.FILE, Slip("written", at, token)), wanted)


class Yielded(unittest.TestCase):
    def test_is_a_generator(self):
        self.assertIsInstance(SlipRule("left").slips(["a"]), types.GeneratorType)

    def test_order(self):
        rule = SlipRule.every() | SlipRule(looks=[("a", "7"), ("a", "="), ("x", "d"), ("=", "e")])
        found = told(rule.slips(["a", "=", "1"], words=["c", "b", "c", "a"], numbers=["5", "1", "5"]))
        self.assertEqual(found, [
            ("left", 0), ("doubled", 0), ("swapped", 0),
            ("written", 0, "="), ("written", 0, "c"), ("written", 0, "b"),
            ("written", 0, "e"), ("written", 0, "7"), ("written", 0, "d"),
            ("left", 1), ("doubled", 1), ("swapped", 1),
            ("written", 1, ";"), ("written", 1, ","), ("written", 1, "["), ("written", 1, "]"), ("written", 1, "e"),
            ("left", 2), ("doubled", 2), ("written", 2, "5"), ("written", 2, "7")])

    def test_all_allowed_slips_each_once(self):
        tokens = ["a", "b", "0", "1", "=", ";", ",", "[", "]"]
        file = ("a", "=", "[", "a", "b", "b", "]", ";", ";")
        rules = [SlipRule(*kinds, looks=looks) for kinds in [(), ("left",), ("swapped", "word"), WORDS]
                 for looks in [(), LOOKS, (("b", "]"), ("]", "0"))]]
        for rule in rules:
            found = list(rule.slips(file, words=("b", "a"), numbers=("1", "0")))
            for slip in found:
                self.assertEqual(found.count(slip), 1)
            wanted = [Slip(kind, at) for at in range(9) for kind in ("left", "doubled", "swapped")]
            wanted += [Slip("written", at, token) for at in range(9) for token in tokens]
            wanted = [slip for slip in wanted if rule.allows(file, slip)]
            self.assertEqual(len(found), len(wanted))
            for slip in wanted:
                self.assertIn(slip, found)

    def test_no_words_given(self):
        self.assertEqual(told(SlipRule("word", "number").slips(["a", "=", "1"])), [])
        self.assertEqual(told(SlipRule.every().slips([])), [])


if __name__ == "__main__":
    unittest.main()
