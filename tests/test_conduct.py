import itertools
import random
import unittest

from samples import BUILDER_KINDS, TABLES, Ended, Interpreter, some_item, some_table_row, some_text
from slipreach.conduct import Conduct
from slipreach.conducts import closure, conduct
from slipreach.errors import TooManyConducts
from slipreach.rowkinds import Table
from slipreach.steps import BuilderText

EXAMPLE = "for @ids\n  if item is 'all'\n    break\n  or owner is item\ntake"
OWNER = Table(["owner"])
SPOTS = ["a", "b", "all", "a b", "zz"]


def builder_of(text, table=OWNER):
    return BuilderText(text, table, BUILDER_KINDS)


def some_builders(chance, count, **more):
    for _ in range(count):
        table = chance.choice(TABLES)
        text = some_text(chance, table, **more)
        yield builder_of(text, table), some_table_row(chance, table)


def loops_of(builder, name):
    return [at for at, line in enumerate(builder.text.split("\n")) if line.strip() == f"for @{name}"]


def result_by_hand(builder, row, line, items, start):
    """The working value and the end of a `for`, run by the other reading of the rules."""
    other = Interpreter(builder.text, row, {}, start)
    behind = other.block_end(line)
    for item in items:
        other.item = item
        try:
            if other.run(line + 1, behind) and other.left == "break":
                return other.working, "break"
        except Ended:
            return None, "refuse"
    return other.working, "through"


def says(builder, row, name, items):
    """All that the conduct of a list should say."""
    rows = [line.split() for line in builder.text.split("\n")]
    meets = {column: row[column] in items for column in builder.table.words
             if any(parts[-3:] == [column, "in", "@" + name] for parts in rows)}
    results = [[result_by_hand(builder, row, line, items, start) for start in (None, True, False)]
               for line in loops_of(builder, name)]
    return len(items) == 0, meets, results


def told_by(builder, name, found):
    meets = {column: found.meets(column) for column in builder.table.columns if found.meets(column) is not None}
    results = [[found.result(number, start) for start in (None, True, False)]
               for number in range(len(loops_of(builder, name)))]
    return found.is_empty, meets, results


class Conducts(unittest.TestCase):
    def test_what_a_conduct_tells(self):
        chance = random.Random(101)
        ends = set()
        for builder, row in some_builders(chance, 1500):
            name = chance.choice(["ids", "tags"])
            items = [some_item(chance) for _ in range(chance.randint(0, 4))]
            before = list(items)
            found = conduct(builder, row, name, chance.choice([list, tuple])(items))
            wanted = says(builder, row, name, items)
            self.assertEqual(told_by(builder, name, found), wanted)
            self.assertEqual(items, before)
            ends |= {result for results in wanted[2] for result in results}
        self.assertEqual(len(ends), 7)

    def test_the_example(self):
        builder = builder_of(EXAMPLE)
        found = conduct(builder, {"owner": "b"}, "ids", ["a", "b", "all", "b"])
        self.assertIsInstance(found, Conduct)
        self.assertEqual((found.is_empty, found.meets("owner"), found.meets("size")), (False, None, None))
        self.assertEqual([found.result(0, start) for start in (None, True, False)], [(True, "break")] * 3)
        empty = conduct(builder, {"owner": "b"}, "ids", ())
        self.assertEqual([empty.result(0, start) for start in (None, True, False)],
                         [(None, "through"), (True, "through"), (False, "through")])

    def test_numbers_of_loops_and_columns(self):
        text = "or owner in @tags\nfor @tags\n  or none\nif blank\n  for @ids\n    refuse\nor maker in @ids\ntake"
        builder = builder_of(text, Table(["owner", "maker"]))
        row = {"owner": "a", "maker": "b"}
        tags, ids = conduct(builder, row, "tags", ["a"]), conduct(builder, row, "ids", ["a"])
        self.assertEqual((tags.meets("owner"), tags.meets("maker")), (True, None))
        self.assertEqual((ids.meets("owner"), ids.meets("maker")), (None, False))
        self.assertEqual((tags.result(0, None), ids.result(0, True)), ((False, "through"), (None, "refuse")))
        named = builder_of("or owner is 'ids'\ntake")
        self.assertIsNone(conduct(named, {"owner": "a"}, "ids", ["a"]).meets("owner"))
        twice = builder_of("for @ids\n  or every\nfor @ids\n  break\ntake")
        found = conduct(twice, {"owner": "a"}, "ids", ["a"])
        self.assertEqual((found.result(0, False), found.result(1, False)), ((True, "through"), (False, "break")))

    def test_sums_and_equality(self):
        chance = random.Random(102)
        for builder, row in some_builders(chance, 400, lists=("ids",)):
            lists = [[some_item(chance) for _ in range(chance.randint(0, 3))] for _ in range(5)]
            found = [conduct(builder, row, "ids", items) for items in lists]
            told = [told_by(builder, "ids", one) for one in found]
            for one, other in itertools.product(range(5), repeat=2):
                both = conduct(builder, row, "ids", lists[one] + lists[other])
                self.assertTrue(found[one] + found[other] == both)
                self.assertEqual((found[one] + found[other]).key, both.key)
                self.assertIs(found[one] == found[other], told[one] == told[other])
                self.assertIs(found[one].key == found[other].key, told[one] == told[other])
            self.assertEqual([told_by(builder, "ids", one) for one in found], told)
            self.assertIsInstance(found[0].key, tuple)
            self.assertEqual({found[0].key: 1}[conduct(builder, row, "ids", lists[0]).key], 1)
            for thing in (None, found[0].key, lists[0]):
                self.assertFalse(found[0] == thing)

    def test_made_by_hand(self):
        first = Conduct(False, (("owner", False),), ((((None, "through"), (False, "break"), (None, "refuse"))),))
        second = Conduct(True, (("owner", True),), ((((True, "through"), (True, "break"), (False, "through"))),))
        both = first + second
        self.assertEqual((both.is_empty, both.meets("owner"), both.meets("maker")), (False, True, None))
        self.assertEqual([both.result(0, start) for start in (None, True, False)],
                         [(True, "through"), (False, "break"), (None, "refuse")])
        self.assertTrue(both != first and both == first + second)


class Closures(unittest.TestCase):
    def check(self, builder, row, name, spots, most=60):
        """The closure, found again by all lists, shorter ones first, until nothing new comes."""
        known, length = [], 0
        while True:
            count = len(known)
            for items in itertools.product(spots, repeat=length):
                told = says(builder, row, name, items)
                if told not in [one for one, _ in known]:
                    known.append((told, items))
            if len(known) == count and length > 0:
                break
            length += 1
        found = closure(builder, row, name, spots, most=most)
        self.assertEqual([(told_by(builder, name, one), items) for one, items in found], known)
        for one, items in found:
            self.assertTrue(one == conduct(builder, row, name, items))
        return len(known)

    def test_the_example(self):
        builder = builder_of(EXAMPLE)
        found = closure(builder, {"owner": "b"}, "ids", ["b", "c", "all"])
        self.assertEqual([items for _, items in found], [(), ("b",), ("c",), ("all",), ("b", "all"), ("c", "all")])
        found = closure(builder, {"owner": "b"}, "ids", ["all", "c", "b"])
        self.assertEqual([items for _, items in found], [(), ("all",), ("c",), ("b",), ("c", "all"), ("b", "all")])

    def test_settings_that_are_not_read(self):
        builder = builder_of(EXAMPLE)
        self.assertEqual([items for _, items in closure(builder, {"owner": "b"}, "tags", ["x", "y"])], [(), ("x",)])
        self.assertEqual([items for _, items in closure(builder, {"owner": "b"}, "tags", [])], [()])

    def test_against_all_lists(self):
        chance = random.Random(103)
        many = []
        while len(many) < 80:
            table = chance.choice(TABLES)
            builder, row = builder_of(some_text(chance, table, lists=("ids",)), table), some_table_row(chance, table)
            if loops_of(builder, "ids"):
                spots = chance.sample(SPOTS, chance.randint(1, 3))
                if len(closure(builder, row, "ids", spots, most=1000)[-1][1]) < 5:
                    many.append(self.check(builder, row, "ids", spots, most=1000))
        self.assertGreater(max(many), 6)

    def test_too_many(self):
        builder = builder_of(EXAMPLE)
        row, spots = {"owner": "b"}, ["b", "c", "all"]
        self.assertEqual(len(closure(builder, row, "ids", spots, most=6)), 6)
        for most in (1, 2, 5):
            with self.assertRaises(TooManyConducts) as caught:
                closure(builder, row, "ids", spots, most=most)
            self.assertEqual(caught.exception.most, most)
        self.assertEqual(len(closure(builder, row, "tags", ["x"], most=2)), 2)
        with self.assertRaises(TooManyConducts):
            closure(builder, row, "tags", ["x"], most=1)
        self.assertEqual(len(closure(builder, row, "tags", [], most=1)), 1)

    def test_the_usual_bound(self):
        builder, row, spots = many_conducts()
        found = closure(builder, row, "ids", spots, most=10 ** 6)
        self.assertGreater(len(found), 60)
        for most in (len(found) - 1, 60):
            with self.assertRaises(TooManyConducts) as caught:
                closure(builder, row, "ids", spots, most=most)
            self.assertEqual(caught.exception.most, most)
        with self.assertRaises(TooManyConducts) as caught:
            closure(builder, row, "ids", spots)
        self.assertEqual(caught.exception.most, 60)
        self.assertEqual(len(closure(builder, row, "ids", spots, most=len(found))), len(found))


def many_conducts():
    """A builder with more than sixty conducts beside a row, with some spots."""
    text = ("or owner in @ids\nor maker in @ids\nfor @ids\n  if item is 'a'\n    not\n  if item is 'b'\n    or every\n"
            "  if item is 'c'\n    break\nfor @ids\n  if item is 'd'\n    clear\n  if item is 'b'\n    not\n"
            "  if item is 'a'\n    if blank\n      or none\ntake")
    builder = builder_of(text, Table(["owner", "maker"]))
    return builder, {"owner": "p", "maker": "q"}, ["a", "b", "c", "d", "p", "q"]


if __name__ == "__main__":
    unittest.main()
