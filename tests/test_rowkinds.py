import itertools
import random
import unittest

from slipreach.errors import BadTable
from slipreach.rowkinds import Table, fresh_words, kind_rows, same_kind, value_spots
from slipreach.tokens import is_item

KEPT = ("and or not clear if else for in break skip refuse take guard no given some item is below least blank every "
        "none").split()
HUGE = 10 ** 199


def numbers_alike(numbers, one, other):
    """6.2 (c), from its words."""
    told = sorted({0, *numbers})
    if one in told or other in told:
        return one == other

    def gap(number):
        return max(low for low in told if low < number), min([high for high in told if high > number], default=None)

    def ends(number):
        low, high = gap(number)
        return number == low + 1, high is not None and number == high - 1
    return gap(one) == gap(other) and ends(one) == ends(other)


def alike(table, words, numbers, one, other):
    """6.2, from its words."""
    for column in table.words:
        if any((one[column] == word) != (other[column] == word) for word in words):
            return False
    if len(table.words) == 2:
        first, second = table.words
        if (one[first] == one[second]) != (other[first] == other[second]):
            return False
    return all(numbers_alike(numbers, one[column], other[column]) for column in table.numbers)


def alike_with_pairs(table, words, numbers, one, other):
    """6.3, from its words."""
    parts = [[row[column].split(" ") for column in table.words] for row in (one, other)]
    if [len(part) for part in parts[0]] != [len(part) for part in parts[1]]:
        return False
    places = [[word for part in row for word in part] for row in parts]
    told = {part for word in words for part in word.split(" ")}
    for at, word in enumerate(places[0]):
        if (word in told or places[1][at] in told) and word != places[1][at]:
            return False
    for left, right in itertools.combinations(range(len(places[0])), 2):
        if (places[0][left] == places[0][right]) != (places[1][left] == places[1][right]):
            return False
    return all(numbers_alike(numbers, one[column], other[column]) for column in table.numbers)


def tables():
    return [Table(["owner"]), Table([], ["size"]), Table(["owner", "maker"]), Table(["owner"], ["size"])]


class Tables(unittest.TestCase):
    def test_columns(self):
        table = Table(["a"], ("b",))
        self.assertEqual((table.columns, table.words, table.numbers), (("a", "b"), ("a",), ("b",)))
        self.assertEqual(Table(numbers=["n"]).columns, ("n",))
        self.assertEqual(Table(("b", "a")).columns, ("b", "a"))

    def test_each_fault(self):
        for words, numbers, at in [
                ([], [], -1), ((), (), -1), (["No"], [], 0), ([1], [], 0), ([None], [], 0), (["a b"], [], 0),
                ([["a"]], [], 0), ([""], [], 0), (["abcdefghijklm"], [], 0), (["a", "a"], [], 1), (["a"], ["a"], 1),
                (["a"], ["B"], 1), (["a", "b", "c"], [], 2), (["a", "b"], ["c"], 2), ([], ["a", "b"], 1),
                (["a"], ["b", "c"], 2), ([], ["a", "a"], 1), ([True], ["a"], 0), (["a", "b", "b"], [], 2),
                (["a", 5, "b"], [], 1), (["a", "b", "c"], ["D"], 2)]:
            with self.assertRaises(BadTable) as caught:
                Table(words, numbers)
            self.assertEqual(caught.exception.at, at)
        for word in KEPT:
            for words, numbers, at in [([word], [], 0), (["a", word], [], 1), ([], [word], 0), (["a"], [word], 1)]:
                with self.assertRaises(BadTable) as caught:
                    Table(words, numbers)
                self.assertEqual(caught.exception.at, at)

    def test_rows(self):
        table = Table(["a"], ["n"])
        for row in [{"a": "x", "n": 0}, {"n": HUGE, "a": "x y"}]:
            self.assertIs(row in table, True)
        for thing in [{"a": "x"}, {"a": "x", "n": 0, "b": "y"}, {"a": "x", "n": True}, {"a": "x", "n": -1}, {},
                      {"a": "x", "n": "0"}, {"a": 1, "n": 0}, {"a": "x  y", "n": 0}, {"a": "x y z", "n": 0}, None, 3,
                      {"a": "", "n": 0}, {"a": "X", "n": 0}, {"a": None, "n": 0}, {"a": "x", "n": 1.0}, "a", ["a", "n"],
                      {"a": "x", "b": 0}, [("a", "x"), ("n", 0)], {"a": ("x",), "n": 0}, {"a": "x", "n": False}]:
            self.assertIs(thing in table, False)
        self.assertIs({"a": "x", "b": "p q"} in Table(["b", "a"]), True)

    def test_equality(self):
        rows = [Table(["a"]), Table([], ["a"]), Table(["a", "b"]), Table(["b", "a"]), Table(["a"], ["b"]), Table(["b"])]
        for (one, first), (other, second) in itertools.product(enumerate(rows), repeat=2):
            self.assertIs(first == second, one == other)
        self.assertTrue(Table(["a"], ["b"]) == Table(("a",), ("b",)))
        for thing in (None, ("a",), "a"):
            self.assertFalse(rows[0] == thing)

    def test_lists_that_change_later(self):
        words = ["a"]
        table = Table(words)
        words.append("b")
        self.assertEqual(table.columns, ("a",))


class FreshWords(unittest.TestCase):
    def test_examples(self):
        letters = "abcdefghijklmnopqrstuvwxyz"
        self.assertEqual(fresh_words([], 3), ["a", "b", "c"])
        self.assertEqual(fresh_words(["b", "a c", "b"], 3), ["d", "e", "f"])
        self.assertEqual(fresh_words(list(letters), 2), ["aa", "ab"])
        self.assertEqual(fresh_words([*letters[:24], "aa ac"], 4), ["y", "z", "ab", "ad"])
        self.assertEqual(fresh_words(["a"], 0), [])
        pairs = [one + other for one in letters for other in letters]
        self.assertEqual(fresh_words([*letters, *pairs], 2), ["aaa", "aab"])
        self.assertEqual(fresh_words([*letters, *pairs[:-1]], 2), ["zz", "aaa"])
        self.assertEqual(fresh_words(list(letters[:20]), 10), ["u", "v", "w", "x", "y", "z", "aa", "ab", "ac", "ad"])


class Kinds(unittest.TestCase):
    def pool(self, table, words, numbers, pairs):
        """Rows with all word values and numbers that can matter, and some more."""
        singles = sorted({part for word in words for part in word.split(" ")}) + ["u", "v", "w", "x"]
        values = singles + [f"{one} {other}" for one in singles for other in singles] if pairs else singles + words
        told = {0, *numbers}
        amounts = sorted({number + step for number in told for step in range(-5, 6) if number + step >= 0})
        choices = [sorted(set(values)) for _ in table.words] + [amounts for _ in table.numbers]
        return [dict(zip(table.columns, row)) for row in itertools.product(*choices)]

    def check(self, table, words, numbers, pairs):
        by_words = alike_with_pairs if pairs else alike
        rows = kind_rows(table, words, numbers, pairs=pairs)
        for row in rows:
            self.assertIn(row, table)
        pool = self.pool(table, words, numbers, pairs)
        if len(pool) > 300:
            pool = random.Random(81).sample(pool, 300)
        for row in pool:
            found = [other for other in rows if by_words(table, words, numbers, row, other)]
            self.assertEqual(len(found), 1, row)
            self.assertTrue(same_kind(table, words, numbers, row, found[0], pairs=pairs))
        for one, other in itertools.islice(itertools.combinations(rows, 2), 20000):
            self.assertFalse(same_kind(table, words, numbers, one, other, pairs=pairs))
        for one, other in zip(pool, pool[1:] + pool[:1]):
            self.assertIs(same_kind(table, words, numbers, one, other, pairs=pairs),
                          by_words(table, words, numbers, one, other))

    def test_one_row_of_each_kind(self):
        for words, numbers in [([], []), (["a"], [0]), (["b", "a", "b"], [3, 1, 3]), (["a b", "a"], [5, 7]),
                               (["c d"], [1, 2, 4, 9])]:
            for table, pairs in itertools.product(tables(), (False, True)):
                self.check(table, words, numbers, pairs)

    def test_counts(self):
        words = ["a", "b", "c d"]
        self.assertEqual([len(kind_rows(table, words, [2, 4, 7, 11])) for table in tables()],
                         [4, 14, 17, 4 * 14])
        self.assertEqual(len(kind_rows(Table(["k"]), words, [], pairs=True)), 5 + (16 + 8 + 2))
        self.assertEqual(len(kind_rows(Table(["k", "l"]), [], [], pairs=True)), 2 + 5 + 5 + 15)
        sixteen = [f"w{letter}" for letter in "abcdefghijklmnop"]
        self.assertEqual(len(kind_rows(Table(["k", "l"]), sixteen, [], pairs=True)), 290 + 2 * 4965 + 85327)

    def test_kinds_of_numbers(self):
        table = Table([], ["n"])
        self.assertEqual(sorted(row["n"] for row in kind_rows(table, [], [10])), [0, 1, 2, 9, 10, 11, 12])
        self.assertEqual(sorted(row["n"] for row in kind_rows(table, [], [1, 3, 6])), [0, 1, 2, 3, 4, 5, 6, 7, 8])
        huge = sorted(row["n"] for row in kind_rows(table, [], [HUGE]))
        self.assertEqual(huge, [0, 1, 2, HUGE - 1, HUGE, HUGE + 1, HUGE + 2])
        for one, other, wanted in [(2, 8, True), (1, 2, False), (9, 8, False), (12, HUGE, True), (11, 12, False),
                                   (0, 0, True), (0, 1, False), (5, 5, True)]:
            self.assertIs(same_kind(table, ["a"], [10], {"n": one}, {"n": other}), wanted)

    def test_examples_of_words(self):
        table = Table(["k", "l"])

        def same(one, other, pairs, words=("a", "b c")):
            return same_kind(table, list(words), [], dict(zip("kl", one)), dict(zip("kl", other)), pairs=pairs)
        for one, other, plain, pairs in [
                (("x", "y"), ("u", "v"), True, True), (("x", "x"), ("u", "v"), False, False),
                (("x", "x"), ("u", "u"), True, True), (("a", "x"), ("a", "y"), True, True),
                (("a", "x"), ("x", "a"), False, False), (("b", "x"), ("y", "x"), True, False),
                (("x y", "u"), ("v", "u"), True, False), (("b c", "x"), ("c b", "x"), False, False),
                (("x y", "y"), ("u v", "v"), True, True), (("x y", "y"), ("u v", "u"), True, False),
                (("x a", "y"), ("z a", "w"), True, True), (("x a", "y"), ("a x", "y"), True, False)]:
            self.assertIs(same(one, other, False), plain)
            rows = [dict(zip("kl", one)), dict(zip("kl", other))]
            self.assertIs(same_kind(table, ["a", "b c"], [], *rows), plain)
            self.assertIs(same(one, other, True), pairs)


class Spots(unittest.TestCase):
    def test_examples(self):
        table = Table(["k"], ["n"])
        words, numbers = value_spots(table, {"k": "q a", "n": 6}, ["m", "c d", "m"], [2, 9, 2])
        self.assertEqual(words, ["a", "c", "c d", "d", "m", "q", "q a", "b"])
        self.assertEqual(numbers, [0, 1, 2, 3, 6, 7, 9, 10])
        words, numbers = value_spots(Table(["k", "l"]), {"k": "x", "l": "y z"}, [], [])
        self.assertEqual((words, numbers), (["x", "y", "y z", "z", "a"], [0, 1]))
        words, numbers = value_spots(Table([], ["n"]), {"n": HUGE}, [], [0, 1, 1])
        self.assertEqual((words, numbers), (["a"], [0, 1, 2, HUGE, HUGE + 1]))
        letters = [letter for letter in "abcdefghijklmnopqrstuvwxyz"]
        self.assertEqual(value_spots(Table(["k"]), {"k": "aa"}, letters, [])[0], ["a", "aa", *letters[1:], "ab"])

    def test_each_value_is_like_some_spot(self):
        chance = random.Random(82)
        pool = ["a", "b", "c", "d", "a b", "c a", "zz", "z a"]
        for _ in range(200):
            table = chance.choice(tables())
            row = {column: chance.choice(pool) for column in table.words}
            row.update({column: chance.randint(0, 9) for column in table.numbers})
            told, numbers = chance.sample(pool, 3), [chance.randint(0, 12) for _ in range(3)]
            words, spots = value_spots(table, row, told, numbers)
            self.assertEqual(words[:-1], sorted(set(words[:-1])))
            self.assertTrue(is_item(words[-1]) and words[-1] not in words[:-1])
            self.assertEqual(spots, sorted(set(spots)))
            marks = [*told, *[row[column] for column in table.words]]
            for value in pool + ["q", "r s"]:
                same = [word for word in words if [value == mark for mark in marks] == [word == mark for mark in marks]]
                self.assertTrue(same)
            marks = [0, *numbers, *[row[column] for column in table.numbers]]
            for number in range(20):
                same = [spot for spot in spots if [number < mark for mark in marks] == [spot < mark for mark in marks]
                        and [number == mark for mark in marks] == [spot == mark for mark in marks]]
                self.assertEqual(len(same), 1)


if __name__ == "__main__":
    unittest.main()
