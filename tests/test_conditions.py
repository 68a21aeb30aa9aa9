import itertools
import random
import unittest

from samples import TABLES
from slipreach.conditions import Condition, parting
from slipreach.errors import BadTest, WrongTable
from slipreach.rowkinds import Table

HUGE = 10 ** 199
WORDS = ["a", "b", "a b", "b a", "c"]
VALUES = (None, True, False)


def put(one, other, word):
    """6.8, from its words."""
    if one is None:
        return other
    if other is None:
        return one
    return (one and other) if word == "and" else (one or other)


def rows_of(table):
    """Rows that are like each row of the table in all tests with WORDS and small numbers."""
    choices = [WORDS + ["zz"] for _ in table.words] + [list(range(9)) + [HUGE] for _ in table.numbers]
    return [dict(zip(table.columns, row)) for row in itertools.product(*choices)]


def one_of_value(table, value):
    if value is None:
        return Condition(table)
    return Condition.every(table) if value else Condition.none(table)


def some_condition(chance, table, depth):
    """A condition and a function from rows to its values."""
    word = chance.choice(["test", "test", "every", "none", "blank", "not", "and", "or", "and",
                          "or"] if depth else ["test"])
    if word in ("every", "none"):
        return one_of_value(table, word == "every"), lambda row: word == "every"
    if word == "blank":
        return Condition(table), lambda row: None
    if word == "not":
        condition, value = some_condition(chance, table, depth - 1)
        return ~condition, lambda row: None if value(row) is None else not value(row)
    if word in ("and", "or"):
        one, first = some_condition(chance, table, depth - 1)
        other, second = some_condition(chance, table, depth - 1)
        return (one & other if word == "and" else one | other), lambda row: put(first(row), second(row), word)
    column = chance.choice(table.columns)
    if column in table.words:
        wanted = chance.choice(WORDS)
        return Condition.test(table, column, "is", wanted), lambda row: row[column] == wanted
    wanted, sign = chance.randint(0, 6), chance.choice(["is", "below", "least"])
    return Condition.test(table, column, sign, wanted), lambda row: {
        "is": row[column] == wanted, "below": row[column] < wanted, "least": row[column] >= wanted}[sign]


class Operators(unittest.TestCase):
    def setUp(self):
        self.table = Table(["owner"])
        self.row = {"owner": "a"}

    def test_each_pair_of_values(self):
        for one, other in itertools.product(VALUES, repeat=2):
            first, second = one_of_value(self.table, one), one_of_value(self.table, other)
            self.assertIs((first & second).value(self.row), put(one, other, "and"))
            self.assertIs((first | second).value(self.row), put(one, other, "or"))
            for word in ("and", "or"):
                changed = one_of_value(self.table, one)
                same = changed
                if word == "and":
                    changed &= second
                else:
                    changed |= second
                self.assertIs(changed, same)
                self.assertIs(changed.value(self.row), put(one, other, word))
            self.assertEqual([first.value(self.row), second.value(self.row)], [one, other])
        for value in VALUES:
            one = one_of_value(self.table, value)
            self.assertIs((~one).value(self.row), None if value is None else not value)
            self.assertIs(one.value(self.row), value)

    def test_none_in_the_place_of_a_condition(self):
        for value in VALUES:
            one = one_of_value(self.table, value)
            for other in (one & None, None & one, one | None, None | one):
                self.assertIsInstance(other, Condition)
                self.assertIsNot(other, one)
                self.assertIs(other.value(self.row), value)
                other |= Condition.every(self.table)
                self.assertIs(one.value(self.row), value)
            changed = one
            changed &= None
            self.assertIs(changed, one)
            changed |= None
            self.assertIs(changed, one)
            self.assertIs(one.value(self.row), value)
            nothing = None
            nothing &= one
            self.assertIs(nothing.value(self.row), value)
            self.assertIsNot(nothing, one)

    def test_the_same_object_on_both_sides(self):
        for value in VALUES:
            for word in ("and", "or"):
                one = one_of_value(self.table, value)
                both = one & one if word == "and" else one | one
                self.assertIs(both.value(self.row), value)
                self.assertIsNot(both, one)
                for _ in range(40):
                    if word == "and":
                        one &= one
                    else:
                        one |= one
                self.assertIs(one.value(self.row), value)

    def test_what_was_made_before_stays(self):
        one, other = Condition.test(self.table, "owner", "is", "a"), Condition.test(self.table, "owner", "is", "b")
        made = [one & other, one | other, ~one, one & None, None | one, other | one]
        values = [[condition.value({"owner": word}) for word in "abc"] for condition in made]
        one |= other
        other &= one
        one &= Condition.none(self.table)
        self.assertEqual([[condition.value({"owner": word}) for word in "abc"] for condition in made], values)
        self.assertEqual([one.value({"owner": word}) for word in "abc"], [False, False, False])
        self.assertEqual([other.value({"owner": word}) for word in "abc"], [False, True, False])
        blank = Condition(self.table)
        blank |= Condition.every(self.table)
        every = Condition.every(self.table)
        every &= Condition.none(self.table)
        self.assertIs(Condition.every(self.table).value(self.row), True)
        self.assertIs(blank.value(self.row), True)

    def test_truth_and_blank(self):
        for value in VALUES:
            one = one_of_value(self.table, value)
            self.assertIs(bool(one), value is not None)
            self.assertIs(one.blank, value is None)
            self.assertIs(one.takes(self.row), value is not False)
            self.assertIs(self.row in one, value is not False)
            for thing in (None, "a", {}, {"owner": 1}, {"owner": "a", "b": "c"}, [self.row]):
                self.assertFalse(thing in one)
        number = Condition.test(Table([], ["n"]), "n", "least", 1)
        self.assertFalse({"n": True} in number)
        self.assertTrue({"n": 1} in number)
        self.assertFalse({"n": 0} in number)
        self.assertEqual(one.table, self.table)

    def test_tables_that_differ(self):
        one = Condition.every(self.table)
        for other in (Condition.every(Table(["maker"])), Condition(Table([], ["owner"])),
                      Condition.none(Table(["owner"], ["n"]))):
            for call in (lambda: one & other, lambda: one | other, lambda: other & one, lambda: parting(one, other),
                         lambda: one.__iand__(other), lambda: one.__ior__(other),
                         lambda: Condition(self.table) & other):
                with self.assertRaises(WrongTable):
                    call()
            self.assertFalse(one == other)
        self.assertEqual((one & Condition.every(Table(("owner",)))).value(self.row), True)
        self.assertIs(one.value(self.row), True)


class Tests(unittest.TestCase):
    def test_bad_parts(self):
        table = Table(["owner"], ["size"])
        for column, sign, wanted, part in [
                ("maker", "odd", None, "column"), (None, "is", "a", "column"), (["owner"], "is", "a", "column"),
                (0, "is", "a", "column"), ("", "is", "a", "column"), ("owner", "below", 3, "sign"),
                ("owner", "least", "a", "sign"),
                ("owner", "in", "a", "sign"), ("owner", None, None, "sign"), ("size", "in", 3, "sign"),
                ("size", ["is"], 3, "sign"),
                ("size", "odd", "a", "sign"), ("owner", "is", 3, "wanted"), ("owner", "is", "A", "wanted"),
                ("owner", "is", "", "wanted"),
                ("owner", "is", "a b c", "wanted"), ("owner", "is", None, "wanted"), ("owner", "is", ["a"], "wanted"),
                ("size", "is", "3", "wanted"), ("size", "below", -1, "wanted"), ("size", "least", True, "wanted"),
                ("size", "is", None, "wanted"), ("size", "is", 1.0, "wanted")]:
            with self.assertRaises(BadTest) as caught:
                Condition.test(table, column, sign, wanted)
            self.assertEqual(caught.exception.part, part)

    def test_values(self):
        table = Table(["owner"], ["size"])
        for sign, wanted, truths in [("is", 3, [False, True, False]), ("below", 3, [True, False, False]),
                                     ("least", 3, [False, True, True]), ("is", HUGE, [False] * 3),
                                     ("below", HUGE, [True] * 3),
                                     ("least", 0, [True] * 3), ("below", 0, [False] * 3)]:
            condition = Condition.test(table, "size", sign, wanted)
            self.assertEqual([condition.value({"owner": "a", "size": size}) for size in (2, 3, 4)], truths)
        pair = Condition.test(table, "owner", "is", "a b")
        self.assertEqual([pair.value({"owner": word, "size": 0}) for word in ("a b", "b a", "a")], [True, False, False])

    def test_tested_words_and_numbers(self):
        table = Table(["owner"], ["size"])
        one = Condition.test(table, "owner", "is", "b") | Condition.test(table, "owner", "is", "a b")
        one &= ~Condition.test(table, "size", "below", HUGE) & Condition.test(table, "owner", "is", "b")
        self.assertEqual((one.tested_words(), one.tested_numbers()), (("a b", "b"), (HUGE,)))
        one &= Condition.none(table)
        one |= Condition.test(table, "size", "least", 0) & Condition(table)
        self.assertEqual((one.tested_words(), one.tested_numbers()), (("a b", "b"), (0, HUGE)))
        for plain in (Condition(table), Condition.every(table), ~Condition.none(table)):
            self.assertEqual((plain.tested_words(), plain.tested_numbers()), ((), ()))
        same = Condition.test(table, "size", "is", 4)
        self.assertEqual((same & same).tested_numbers(), (4,))


class Equality(unittest.TestCase):
    def test_random_conditions(self):
        chance = random.Random(121)
        equal = more = less = 0
        for _ in range(1500):
            table = chance.choice(TABLES)
            rows = rows_of(table)
            one, first = some_condition(chance, table, 4)
            other, second = some_condition(chance, table, 4)
            values = [[value(row) for row in rows] for value in (first, second)]
            self.assertEqual([one.value(row) for row in rows[:40]], values[0][:40])
            self.assertIs(one == other, values[0] == values[1])
            self.assertIs(one != other, values[0] != values[1])
            found = parting(one, other)
            both = list(zip(rows, *values))
            added = [row for row, before, after in both if before is False and after is not False]
            lost = [row for row, before, after in both if before is not False and after is False]
            self.assertEqual([row is not None for row in found], [len(added) > 0, len(lost) > 0])
            for row, wanted in zip(found, ((False, True), (True, False))):
                if row is not None:
                    self.assertIn(row, table)
                    self.assertEqual((one.takes(row), other.takes(row)), wanted)
            equal, more, less = equal + (one == other), more + (len(added) > 0), less + (len(lost) > 0)
        self.assertGreater(min(equal, more, less), 100)

    def test_words_and_pairs(self):
        table = Table(["owner", "maker"])
        one, pair = Condition.test(table, "owner", "is", "a"), Condition.test(table, "owner", "is", "a b")
        self.assertFalse(one == pair)
        self.assertTrue(one | pair == pair | one)
        self.assertTrue(one & pair == Condition.none(table))
        self.assertFalse(one | ~one == Condition(table))
        self.assertTrue(one | ~one == Condition.every(table))
        self.assertEqual(parting(one | ~one, Condition(table)), (None, None))
        self.assertTrue(Condition(table) == ~Condition(table))
        all_letters = Condition.none(table)
        for letter in "abcdefghijklmnopqrstuvwx":
            all_letters |= Condition.test(table, "maker", "is", letter)
        self.assertFalse(all_letters == Condition.every(table))
        more, less = parting(all_letters, Condition.every(table))
        self.assertEqual((more in table, all_letters.takes(more), less), (True, False, None))
        for thing in (None, "a", table, True):
            self.assertFalse(one == thing)

    def test_numbers_of_many_digits(self):
        table = Table([], ["n"])
        for number in (HUGE, 5, 1, 0):
            below, least = Condition.test(table, "n", "below", number), Condition.test(table, "n", "least", number)
            self.assertTrue(~below == least)
            self.assertTrue(Condition.test(table, "n", "below", number + 1) & least == Condition.test(table, "n", "is",
                                                                                                      number))
            self.assertFalse(Condition.test(table, "n", "below", number + 2) & least == Condition.test(table, "n", "is",
                                                                                                       number))
            self.assertEqual(parting(Condition.test(table, "n", "is", number),
                                     Condition.test(table, "n", "below", number + 2) & least),
                             ({"n": number + 1}, None))
        low = Condition.test(table, "n", "least", HUGE - 1) & Condition.test(table, "n", "below", HUGE)
        self.assertTrue(low == Condition.test(table, "n", "is", HUGE - 1))
        self.assertEqual(parting(low, Condition.none(table)), (None, {"n": HUGE - 1}))
        self.assertTrue(Condition.test(table, "n", "below", 0) == Condition.none(table))

    def test_deep_nesting_and_many_tests(self):
        table = Table(["owner", "maker"])
        one = Condition.test(table, "owner", "is", "a")
        deep = one
        for _ in range(2000):
            deep = ~deep
        self.assertTrue(deep == one)
        words = [f"w{letter}" for letter in "abcdefghijklmnopqrstuvwx"]
        rows = [Condition.test(table, table.columns[at & 1], "is", words[at // 2]) for at in range(48)]
        many = Condition.none(table)
        for at in range(2000):
            many = rows[at % 48] | (~many if at % 3 else many) & rows[at % 7]
            many = many if at % 5 else ~many
        self.assertIn(many.value({"owner": "wa", "maker": "q"}), (True, False))
        self.assertTrue(many == ~~many)
        self.assertFalse(many == ~many)
        changed = Condition(table)
        for at in range(2000):
            changed |= rows[at % 48]
        short = Condition(table)
        for at in range(48):
            short |= rows[at]
        self.assertTrue(changed == short)
        self.assertEqual(changed.tested_words(), tuple(words))
        self.assertEqual(parting(changed, short), (None, None))
        left, right = one, one
        for at in range(1999):
            left, right = left & rows[at % 48], rows[at % 48] & right
        self.assertTrue(left == right)


if __name__ == "__main__":
    unittest.main()
