import itertools
import random
import unittest

from slipreach.conditions import Condition
from slipreach.deeds import Change, Deed, Delete, Store, Trial, attempt, attempted, preview_count
from slipreach.errors import BadColumn, BadRows, TooManyRows, WrongTable
from slipreach.rowkinds import Table

TABLE = Table(["owner"], ["size"])


def row(owner, size):
    return {"owner": owner, "size": size}


ROWS = [row("a", 1), row("b", 2), row("a", 1), row("c", 3), row("a b", 2)]


def is_owner(word):
    return Condition.test(TABLE, "owner", "is", word)


def store():
    return Store(TABLE, ROWS)


class Odd(Exception):
    pass


class Deeds(unittest.TestCase):
    def test_a_plain_deed(self):
        deed = Deed(is_owner("a"))
        self.assertEqual(deed.table, TABLE)
        self.assertEqual([deed.takes(one) for one in ROWS], [True, False, True, False, False])
        one = deed.becomes(ROWS[0])
        one["size"] = 9
        self.assertEqual(ROWS[0], row("a", 1))
        held = store()
        taken = held.do(deed)
        self.assertEqual((taken, held.listed()), ([row("a", 1)] * 2, ROWS))

    def test_delete(self):
        deed = Delete(is_owner("a"))
        self.assertIsInstance(deed, Deed)
        self.assertIsNone(deed.becomes(ROWS[0]))
        self.assertEqual(deed.becomes(ROWS[1]), ROWS[1])
        self.assertIsNot(deed.becomes(ROWS[1]), ROWS[1])
        held = store()
        self.assertEqual(held.do(deed), [ROWS[0], ROWS[2]])
        self.assertEqual(held.listed(), [ROWS[1], ROWS[3], ROWS[4]])
        self.assertEqual(held.do(deed), [])
        self.assertEqual(held.do(Delete(Condition(TABLE))), [ROWS[1], ROWS[3], ROWS[4]])
        self.assertEqual((held.listed(), len(held)), ([], 0))

    def test_change(self):
        deed = Change(is_owner("a"), {"size": 7})
        self.assertIsInstance(deed, Deed)
        self.assertEqual((deed.changes, deed.table), ({"size": 7}, TABLE))
        self.assertEqual((deed.becomes(ROWS[0]), deed.becomes(ROWS[1])), (row("a", 7), ROWS[1]))
        held = store()
        self.assertEqual(held.do(deed), [row("a", 1)] * 2)
        self.assertEqual(held.listed(), [row("a", 7), row("b", 2), row("a", 7), row("c", 3), row("a b", 2)])
        self.assertEqual(held.do(deed), [row("a", 7)] * 2)
        both = Change(Condition.test(TABLE, "size", "below", 3), {"owner": "x y", "size": 10 ** 199})
        self.assertEqual(held.do(both), [row("b", 2), row("a b", 2)])
        self.assertEqual(held.listed()[1], row("x y", 10 ** 199))
        self.assertEqual(held.do(Change(is_owner("c"), {})), [row("c", 3)])

    def test_bad_columns(self):
        for changes, name in [({"size": -1}, "size"), ({"size": True}, "size"), ({"size": "3"}, "size"),
                              ({"owner": 3}, "owner"),
                              ({"owner": "A"}, "owner"), ({"owner": None}, "owner"), ({"owner": "a b c"}, "owner"),
                              ({"maker": "a"}, "maker"), ({"maker": 3}, "maker"),
                              ({"size": -1, "maker": "a", "owner": "x"}, "maker"),
                              ({"": "a"}, ""),
                              ({"owner": 1, "size": -1, "zz": 1}, "owner"), ({"owner": ["a"]}, "owner")]:
            with self.assertRaises(BadColumn) as caught:
                Change(is_owner("a"), changes)
            self.assertEqual(caught.exception.name, name)

    def test_the_condition_as_it_was(self):
        condition, changes = is_owner("a"), {"size": 5}
        deeds = [Deed(condition), Delete(condition), Change(condition, changes)]
        condition |= Condition.every(TABLE)
        changes["size"] = 6
        for deed in deeds:
            self.assertEqual([deed.takes(one) for one in ROWS], [True, False, True, False, False])
        self.assertEqual(deeds[2].becomes(ROWS[0]), row("a", 5))

    def test_blank_every_none(self):
        for condition, count in [(Condition(TABLE), 5), (Condition.every(TABLE), 5), (Condition.none(TABLE), 0)]:
            self.assertEqual(len(store().do(Deed(condition))), count)
            self.assertEqual(store().counted(condition), count)


class Stores(unittest.TestCase):
    def test_rows(self):
        rows = [dict(one) for one in ROWS]
        held = Store(TABLE, rows)
        rows[0]["size"] = 99
        rows.append(row("z", 1))
        self.assertEqual((held.table, len(held), held.listed()), (TABLE, 5, ROWS))
        listed = held.listed()
        listed[0]["size"] = 99
        listed.pop()
        self.assertEqual(held.listed(), ROWS)
        taken = held.do(Deed(is_owner("a")))
        taken[0]["size"] = 99
        self.assertEqual(held.listed(), ROWS)
        self.assertEqual(held.counted(is_owner("a")), 2)
        self.assertEqual(len(Store(TABLE, [])), 0)

    def test_membership(self):
        held = store()
        for one in ROWS:
            self.assertIs(one in held, True)
        for thing in [row("a", 2), row("a", True), row("z", 1), {"owner": "a"}, None, 3, "a", {**row("a", 1), "b": 1},
                      [ROWS[0]]]:
            self.assertIs(thing in held, False)

    def test_bad_rows(self):
        for thing in [None, {}, {"owner": "a"}, row("a", True), row("a", -1), row("A", 1), {**row("a", 1), "b": 1},
                      ["a"]]:
            for at in range(3):
                rows = ROWS[:at] + [thing] + ROWS[at:2] + [None]
                with self.assertRaises(BadRows) as caught:
                    Store(TABLE, rows)
                self.assertEqual(caught.exception.at, at)

    def test_most(self):
        for most in (None, 2, 3, 100):
            self.assertEqual(len(store().do(Delete(is_owner("a")), most=most)), 2)
        for most in (1, 0, -1, -5):
            held = store()
            with self.assertRaises(TooManyRows) as caught:
                held.do(Delete(is_owner("a")), most=most)
            self.assertEqual((caught.exception.count, caught.exception.most, held.listed()), (2, most, ROWS))
        held = store()
        self.assertEqual(held.do(Delete(is_owner("z")), most=0), [])
        with self.assertRaises(TooManyRows) as caught:
            held.do(Delete(is_owner("z")), most=-1)
        self.assertEqual((caught.exception.count, caught.exception.most), (0, -1))

    def test_other_tables(self):
        other = Condition.every(Table(["owner"]))
        held = store()
        for call in (lambda: held.counted(other), lambda: held.do(Delete(other)),
                     lambda: held.do(Deed(other), most=-1)):
            with self.assertRaises(WrongTable):
                call()
        with Trial(held, -1) as trial:
            with self.assertRaises(WrongTable):
                trial.do(Delete(other))
        self.assertEqual(held.listed(), ROWS)

    def test_random_deeds(self):
        chance = random.Random(141)
        for _ in range(200):
            rows = [row(chance.choice("abc"), chance.randint(0, 2)) for _ in range(chance.randint(0, 6))]
            held = Store(TABLE, rows)
            for _ in range(3):
                condition = is_owner(chance.choice("abc")) | Condition.test(TABLE, "size", "is", chance.randint(0, 2))
                kind = chance.choice(["plain", "delete", "change"])
                deed = {"plain": Deed(condition), "delete": Delete(condition),
                        "change": Change(condition, {"size": 1})}[kind]
                self.assertEqual(held.do(deed), [one for one in rows if condition.takes(one)])
                if kind == "delete":
                    rows = [one for one in rows if not condition.takes(one)]
                if kind == "change":
                    rows = [{**one, "size": 1} if condition.takes(one) else one for one in rows]
                self.assertEqual(held.listed(), rows)


class Trials(unittest.TestCase):
    def test_counting(self):
        held = store()
        with Trial(held, 5) as trial:
            self.assertIsInstance(trial, Trial)
            self.assertEqual(trial.count, 0)
            self.assertEqual(trial.do(Change(is_owner("a"), {"owner": "z"})), [row("a", 1)] * 2)
            self.assertEqual(trial.do(Deed(is_owner("z"))), [row("z", 1)] * 2)
            self.assertEqual(trial.count, 4)
            held.do(Delete(is_owner("b")))
            self.assertEqual(trial.count, 4)
            with self.assertRaises(TooManyRows) as caught:
                trial.do(Delete(is_owner("z")))
            self.assertEqual((caught.exception.count, caught.exception.most), (6, 5))
            self.assertEqual((trial.count, len(held)), (4, 4))
            self.assertEqual(len(trial.do(Delete(is_owner("c")))), 1)
        self.assertEqual((trial.count, held.listed()), (5, [row("z", 1), row("z", 1), row("a b", 2)]))

    def test_most(self):
        for most in (None, 2):
            with Trial(store(), most) as trial:
                self.assertEqual(len(trial.do(Delete(is_owner("a")))), 2)
        for most, word, count in [(0, "a", 2), (-1, "z", 0), (1, "a", 2), (-3, "b", 1)]:
            held = store()
            with self.assertRaises(TooManyRows) as caught:
                with Trial(held, most) as trial:
                    trial.do(Delete(is_owner(word)))
            self.assertEqual((caught.exception.count, caught.exception.most, trial.count), (count, most, 0))
            self.assertEqual(held.listed(), ROWS)
        with Trial(store(), 0) as trial:
            self.assertEqual(trial.do(Delete(is_owner("z"))), [])

    def test_errors_of_any_class(self):
        for error in (Odd, ValueError, KeyError, KeyboardInterrupt, SystemExit, GeneratorExit, BaseException):
            held = store()
            with self.assertRaises(error):
                with Trial(held) as trial:
                    trial.do(Delete(is_owner("a")))
                    held.do(Change(Condition(TABLE), {"size": 0}))
                    raise error()
            self.assertEqual((held.listed(), trial.count), (ROWS, 2))

    def test_tried(self):
        held = store()
        with Trial(held, tried=True) as trial:
            trial.do(Delete(is_owner("a")))
            held.do(Delete(is_owner("b")))
            self.assertEqual(len(held), 2)
        self.assertEqual((held.listed(), trial.count), (ROWS, 2))
        with self.assertRaises(Odd):
            with Trial(held, None, tried=True) as trial:
                trial.do(Delete(Condition(TABLE)))
                raise Odd()
        self.assertEqual(held.listed(), ROWS)

    def test_trials_inside_trials(self):
        for tried, is_raised in itertools.product((False, True), repeat=2):
            held = store()
            with Trial(held, 3) as outer:
                outer.do(Delete(is_owner("b")))
                middle = held.listed()
                try:
                    with Trial(held, 2, tried=tried) as inner:
                        self.assertEqual(len(inner.do(Delete(is_owner("a")))), 2)
                        if is_raised:
                            raise Odd()
                except Odd:
                    pass
                self.assertEqual((inner.count, outer.count), (2, 1))
                self.assertEqual(held.listed() == middle, tried or is_raised)
                outer.do(Delete(is_owner("c")))
            self.assertEqual((outer.count, row("b", 2) in held, row("c", 3) in held), (2, False, False))
        held = store()
        with self.assertRaises(Odd):
            with Trial(held):
                with Trial(held) as inner:
                    inner.do(Delete(Condition(TABLE)))
                raise Odd()
        self.assertEqual(held.listed(), ROWS)

    def test_the_rows_when_it_was_entered(self):
        held = store()
        trial = Trial(held, tried=True)
        held.do(Delete(is_owner("a")))
        with trial as same:
            self.assertIs(same, trial)
            trial.do(Delete(Condition(TABLE)))
        self.assertEqual(held.listed(), [ROWS[1], ROWS[3], ROWS[4]])

    def test_attempt(self):
        held = store()
        deeds = [Change(is_owner("a"), {"owner": "b"}), Delete(is_owner("b"))]
        self.assertEqual(attempt(held, deeds, most=5), [[row("a", 1)] * 2, [row("b", 1), row("b", 2), row("b", 1)]])
        self.assertEqual(held.listed(), [row("c", 3), row("a b", 2)])
        self.assertEqual(attempt(held, []), [])
        held = store()
        with self.assertRaises(TooManyRows) as caught:
            attempt(held, deeds, most=4)
        self.assertEqual((caught.exception.count, caught.exception.most, held.listed()), (5, 4, ROWS))
        with self.assertRaises(WrongTable):
            attempt(held, [deeds[0], Delete(Condition(Table(["owner"])))])
        self.assertEqual(held.listed(), ROWS)

    def test_preview_count(self):
        held = store()
        deeds = [Change(is_owner("a"), {"owner": "b"}), Delete(is_owner("b")), Delete(is_owner("b"))]
        self.assertEqual(preview_count(held, deeds), [2, 3, 0])
        self.assertEqual(held.listed(), ROWS)
        with self.assertRaises(TooManyRows) as caught:
            preview_count(held, deeds, most=1)
        self.assertEqual((caught.exception.count, caught.exception.most, held.listed()), (2, 1, ROWS))

    def test_attempted(self):
        held = store()
        self.assertEqual(attempted(held, lambda trial: len(trial.do(Delete(is_owner("a")))), most=2), 2)
        self.assertEqual(len(held), 3)
        self.assertEqual(attempted(held, lambda trial: trial.do(Delete(is_owner("b"))), tried=True), [row("b", 2)])
        self.assertEqual(len(held), 3)

        def odd(trial):
            trial.do(Delete(is_owner("b")))
            raise Odd()
        with self.assertRaises(Odd):
            attempted(held, odd)
        with self.assertRaises(TooManyRows):
            attempted(held, lambda trial: trial.do(Delete(Condition(TABLE))), most=1)
        self.assertEqual(len(held), 3)
        self.assertIsNone(attempted(held, lambda trial: None))


if __name__ == "__main__":
    unittest.main()
