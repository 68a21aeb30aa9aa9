import unittest

from slipreach.errors import BadSlip
from slipreach.slips import Slip, trimmed

FILE = ["a", "=", "b", ";", ";"]


class Made(unittest.TestCase):
    def test_attributes(self):
        slip = Slip("written", 2, "x")
        self.assertEqual((slip.kind, slip.at, slip.token), ("written", 2, "x"))
        slip = Slip("left", 0)
        self.assertEqual((slip.kind, slip.at, slip.token), ("left", 0, None))
        self.assertEqual(Slip(kind="written", at=0, token=";").token, ";")

    def test_slips_that_cannot_be_made(self):
        for kind in ["", "right", None, 1, ["left"], "Left", "word", ("left",)]:
            self.fails(3, kind, 3)
        for at in [-1, True, False, None, "0", 1.0, (), [0]]:
            self.fails(at, "left", at)
            self.fails(at, "written", at, "a")
        for token in [None, 1, "A", "", "a b", "01", "==", ["a"], "l" * 13, True]:
            self.fails(2, "written", 2, token)
        for kind in ["left", "doubled", "swapped"]:
            for token in ["a", "=", 0, False, "", ()]:
                self.fails(1, kind, 1, token)

    def fails(self, told, *arguments):
        with self.assertRaises(BadSlip) as caught:
            Slip(*arguments)
        self.assertIs(caught.exception.at, told)

    def test_equality(self):
        self.assertEqual(Slip("left", 1), Slip("left", 1))
        self.assertEqual(Slip("written", 1, "a"), Slip("written", 1, "a"))
        for other in [Slip("doubled", 1), Slip("left", 2), Slip("written", 1, "a"), None, "left", ("left", 1, None)]:
            self.assertNotEqual(Slip("left", 1), other)
        self.assertNotEqual(Slip("written", 1, "b"), Slip("written", 1, "a"))


class Done(unittest.TestCase):
    def done(self, kind, at, token=None):
        slip = Slip(kind, at, token)
        self.assertIs(slip.fits(FILE), True)
        self.assertIs(slip.fits(tuple(FILE)), True)
        before = list(FILE)
        found = slip(FILE)
        self.assertEqual(slip(tuple(FILE)), found)
        self.assertIs(type(found), list)
        self.assertEqual(FILE, before)
        return " ".join(found)

    def test_first_and_last_places(self):
        self.assertEqual(self.done("left", 0), "= b ; ;")
        self.assertEqual(self.done("left", 4), "a = b ;")
        self.assertEqual(self.done("doubled", 0), "a a = b ; ;")
        self.assertEqual(self.done("doubled", 4), "a = b ; ; ;")
        self.assertEqual(self.done("swapped", 0), "= a b ; ;")
        self.assertEqual(self.done("swapped", 2), "a = ; b ;")
        self.assertEqual(self.done("written", 0, "b"), "b = b ; ;")
        self.assertEqual(self.done("written", 4, "12"), "a = b ; 12")

    def test_last_two_tokens_swapped(self):
        self.assertIs(Slip("swapped", 1).fits(["a", "b", "c"]), True)
        self.assertEqual(Slip("swapped", 1)(["a", "b", "c"]), ["a", "c", "b"])
        self.assertEqual(Slip("swapped", 0)(["a", "b"]), ["b", "a"])

    def test_no_places(self):
        for slip in [Slip("left", 5), Slip("doubled", 5), Slip("swapped", 4), Slip("swapped", 3), Slip("swapped", 9),
                     Slip("written", 5, "a"), Slip("written", 2, "b"), Slip("written", 4, ";"), Slip("left", 99)]:
            self.assertIs(slip.fits(FILE), False)
            with self.assertRaises(BadSlip) as caught:
                slip(FILE)
            self.assertEqual(caught.exception.at, slip.at)

    def test_empty_file(self):
        for slip in [Slip("left", 0), Slip("doubled", 0), Slip("swapped", 0), Slip("written", 0, "a")]:
            self.assertIs(slip.fits([]), False)


class Trimmed(unittest.TestCase):
    def test_examples(self):
        self.assertEqual(trimmed([], []), ([], []))
        self.assertEqual(trimmed([1, 2, 3], [1, 2, 3]), ([], []))
        self.assertEqual(trimmed([1, 2, 3], [1, 9, 3]), ([2], [9]))
        self.assertEqual(trimmed([1, 2, 3], [1, 3]), ([2], []))
        self.assertEqual(trimmed([], [1]), ([], [1]))
        self.assertEqual(trimmed([1, 2, 3, 4, 5], [9, 3, 4, 5]), ([1, 2], [9]))
        self.assertEqual(trimmed([1, 2, 3, 4, 5], [1, 2, 7, 3, 5]), ([3, 4], [7, 3]))
        self.assertEqual(trimmed([1, 2, 3, 4], [0, 2, 5, 4]), ([1, 2, 3], [0, 2, 5]))
        self.assertEqual(trimmed([1, 2], [3, 4, 5]), ([1, 2], [3, 4, 5]))
        self.assertEqual(trimmed([("a", None), [1]], [("a", None), [2]]), ([[1]], [[2]]))

    def test_beginning_and_end_overlap(self):
        self.assertEqual(trimmed([1, 1], [1, 1, 1]), ([], [1]))
        self.assertEqual(trimmed([1, 2, 1], [1, 2, 1, 2, 1]), ([], [2, 1]))
        self.assertEqual(trimmed([1, 2, 1, 1], [1, 1]), ([2, 1], []))
        self.assertEqual(trimmed(["a", "b", "a"], ["a"]), (["b", "a"], []))

    def test_what_is_passed_stays(self):
        one, other = [1, 2], [1, 3]
        first, second = trimmed(one, other)
        first.append(0)
        second.append(0)
        self.assertEqual((one, other), ([1, 2], [1, 3]))


if __name__ == "__main__":
    unittest.main()
