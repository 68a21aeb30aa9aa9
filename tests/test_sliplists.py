import itertools
import random
import unittest

from samples import BUILDER_KINDS, TABLES, some_table_row, some_text
from slipreach.conducts import closure, conduct
from slipreach.errors import TooManyConducts
from slipreach.rowkinds import Table
from slipreach.sliplists import items_of, list_pairs
from slipreach.steps import BuilderText
from test_conduct import EXAMPLE, loops_of, many_conducts

WORDS = ["a", "b", "c", "all", "zz", "yy", "xx", "f"]
MIDDLES = [((("item", "s"),), ()), ((("item", "s"), ("item", "t")), (("item", "t"), ("item", "s"))),
           ((("item", "s"),), (("item", "s"), ("item", "s"))), ((("item", "s"),), (("item", "t"),)),
           ((("item", "s"), ("item", "t")), (("pair", "s", "t"),)), ((("pair", "s", "t"),),
                                                                     (("item", "s"), ("item", "t"))),
           ((("pair", "s", "t"), ("item", "u")), (("pair", "s", "u"),)), ((), ())]


def symbols_of(parts):
    return {symbol for part in parts or () if part[0] in ("item", "pair") for symbol in part[1:]}


def edges_of(*lists):
    return {part[0]: max(part[1] for parts in lists for part in parts or () if part[0] == word) for word in ("head",
                                                                                                             "tail")
            for parts in lists for part in parts or () if part[0] == word}


def items_by_hand(parts, words, head, tail):
    row = []
    for part in parts:
        row += {"head": head, "tail": tail}.get(part[0], (" ".join(words.get(symbol, "") for symbol in part[1:]),))
    return tuple(row)


class ListPairs(unittest.TestCase):
    def all_fillings(self, pool, spots, before, after, unlike, fixed, most):
        """Every filling with few items in head and tail, out of some words."""
        symbols = sorted((symbols_of(before) | symbols_of(after)) - set(fixed))
        edges = edges_of(before, after)
        lists = {word: [tuple(row) for count in range(edges.get(word, 0), (most if word in edges else 0) + 1)
                        for row in itertools.product(spots, repeat=count)] for word in ("head", "tail")}
        for row in itertools.product(pool, repeat=len(symbols)):
            words = {**dict(zip(symbols, row)), **fixed}
            if any(one in words and other in words and words[one] == words[other] for one, other in unlike):
                continue
            for head, tail in itertools.product(lists["head"], lists["tail"]):
                yield words, head, tail

    def check(self, builder, row, spots, before, after, unlike=(), fixed=None, most=3):
        found = list_pairs(builder, row, "ids", spots, before, after, unlike=unlike, fixed=fixed)
        fixed = fixed or {}

        def key(parts, words, head, tail):
            return None if parts is None else conduct(builder, row, "ids", items_by_hand(parts, words, head, tail)).key
        least = {}
        pool = WORDS + [word for column in builder.table.words for word in row[column].split(" ") if word not in WORDS]
        for words, head, tail in self.all_fillings(pool, spots, before, after, unlike, fixed, most):
            both = (key(before, words, head, tail), key(after, words, head, tail))
            cost = sum(len(items_by_hand(parts, words, head, tail)) for parts in (before, after) if parts is not None)
            least[both] = min(cost, least.get(both, cost))
        told = {}
        edges = edges_of(before, after)
        for pair in found:
            self.assertEqual(set(pair.words), symbols_of(before) | symbols_of(after) | set(fixed))
            self.assertTrue(all(pair.words[symbol] == fixed[symbol] for symbol in fixed))
            for one, other in unlike:
                if one in pair.words and other in pair.words:
                    self.assertNotEqual(pair.words[one], pair.words[other])
            for word, items in (("head", pair.head), ("tail", pair.tail)):
                self.assertIsInstance(items, tuple)
                self.assertTrue(set(items) <= set(spots) and len(items) >= edges.get(word, 0))
                self.assertTrue(word in edges or items == ())
            cost = 0
            for parts, items, one in ((before, pair.unslipped, pair.first), (after, pair.slipped, pair.second)):
                if parts is None:
                    self.assertEqual((items, one), (None, None))
                    continue
                self.assertEqual(items, items_of(parts, pair.words, pair.head, pair.tail))
                self.assertTrue(one == conduct(builder, row, "ids", items))
                cost += len(items)
            both = (pair.first and pair.first.key, pair.second and pair.second.key)
            self.assertNotIn(both, told)
            told[both] = cost
        return least, told

    def check_both(self, *things, **more):
        least, told = self.check(*things, **more)
        self.assertEqual(told, least)
        return len(told)

    def test_the_example(self):
        builder, row = BuilderText(EXAMPLE, Table(["owner"]), BUILDER_KINDS), {"owner": "b"}
        spots = ["b", "c", "all"]
        for before, after in [([("item", "s")], []), ([("item", "s")], None), (None, (("item", "s"),)),
                              (None, [("head", 1)]),
                              ([("head", 0), ("item", "s"), ("tail", 0)], [("head", 0), ("tail", 0)]),
                              ([("head", 1), ("item", "s")], [("item", "s"), ("tail", 1)]),
                              ([("head", 1)], [("tail", 0)]),
                              ([("item", "s"), ("item", "t"), ("tail", 1)],
                               [("item", "t"), ("item", "s"), ("tail", 1)]),
                              ([("pair", "s", "t")], [("item", "s"), ("item", "t")]), ([], []), (None, []), ([], None),
                              ([("head", 0), ("tail", 1)], [("head", 1), ("tail", 0)])]:
            for unlike, fixed in [((), None), ((("s", "t"),), None), ([("s", "t")], {"s": "b"}),
                                  ((), {"s": "all", "t": "q"}),
                                  ((("s", "t"),), {"t": "zz"})]:
                self.check_both(builder, row, spots, before, after, unlike, fixed)

    def test_unlike_and_fixed(self):
        builder, row = BuilderText(EXAMPLE, Table(["owner"]), BUILDER_KINDS), {"owner": "b"}
        first = [("item", "s")]
        found = list_pairs(builder, row, "ids", [], first, [("item", "t")], unlike=[("s", "t")],
                           fixed={"s": "b", "t": "b"})
        self.assertEqual(found, [])
        found = list_pairs(builder, row, "ids", [], first, [("item", "s")], unlike=[("s", "t")], fixed={"s": "b"})
        self.assertEqual([(pair.words, pair.unslipped, pair.slipped) for pair in found], [({"s": "b"}, ("b",), ("b",))])
        found = list_pairs(builder, row, "ids", [], first, None, unlike=[("s", "t")], fixed={"t": "b"})
        self.assertNotIn("b", [pair.words["s"] for pair in found])
        self.assertEqual(len(found), 2)
        self.assertEqual([pair.words["t"] for pair in found], ["b", "b"])
        found = list_pairs(builder, row, "ids", [], first, [("item", "t")], unlike=[("s", "t")], fixed={"t": "a"})
        self.assertEqual(len(found), 3)
        swap = list_pairs(builder, row, "ids", [], [("item", "s"), ("item", "t")], [("item", "t")], unlike=[("t", "s")])
        for pair in swap:
            self.assertNotEqual(pair.words["s"], pair.words["t"])

    def test_a_pair_that_is_written(self):
        text = "for @ids\n  if item is 'a_b'\n    or owner is 'c_c'\n  or owner is item\ntake"
        builder = BuilderText(text, Table(["owner"]), BUILDER_KINDS)
        for owner in ("c c", "b a", "a", "q"):
            self.check_both(builder, {"owner": owner}, ["a b", "a"], [("item", "s"), ("item", "t")],
                            [("pair", "s", "t")])
            self.check_both(builder, {"owner": owner}, ["a b"], [("pair", "s", "t"), ("tail", 0)],
                            [("pair", "t", "s"), ("tail", 0)],
                            unlike=[("s", "t")])

    def test_random_builders(self):
        chance = random.Random(111)
        many, done = [], 0
        while done < 60:
            table = chance.choice(TABLES)
            builder = BuilderText(some_text(chance, table, lists=("ids",)), table, BUILDER_KINDS)
            row, spots = some_table_row(chance, table), chance.sample(["a", "b", "all", "a b", "zz"], 2)
            if not loops_of(builder, "ids") or max(len(items) for _, items in closure(builder, row, "ids", spots)) > 3:
                continue
            done += 1
            first, second = chance.choice(MIDDLES)
            head, tail = chance.choice([(), ("head",)]), chance.choice([(), ("tail",)])
            before = [(word, chance.randint(0, 1)) for word in head] + list(first) + [(word, 0) for word in tail]
            after = [(word, chance.randint(0, 1)) for word in head] + list(second) + [(word, 0) for word in tail]
            before, after = chance.choice([(before, after), (before, after), (None, after), (before, None)])
            unlike, fixed = chance.choice([(), (("s", "t"),)]), chance.choice([None, {"s": "a"}, {"t": "zz"}])
            many.append(self.check_both(builder, row, spots, before, after, unlike, fixed, most=3))
        self.assertGreater(max(many), 5)

    def test_items_of(self):
        words = {"s": "a", "t": "b"}
        parts = [("head", 0), ("item", "s"), ("pair", "t", "s"), ("item", "s"), ("tail", 1)]
        self.assertEqual(items_of(parts, words, ["x", "y z"], ("w",)), ("x", "y z", "a", "b a", "a", "w"))
        self.assertEqual(items_of((), {}, ["x"], ["y"]), ())
        self.assertEqual(items_of(tuple(parts[:1]), {}, (), ()), ())

    def test_too_many(self):
        builder, row, spots = many_conducts()
        parts = [("head", 0), ("item", "s")]
        with self.assertRaises(TooManyConducts) as caught:
            list_pairs(builder, row, "ids", spots, parts, parts)
        self.assertEqual(caught.exception.most, 60)

    def test_nothing_is_changed(self):
        builder, row = BuilderText(EXAMPLE, Table(["owner"]), BUILDER_KINDS), {"owner": "b"}
        spots, before, fixed = ["b"], [("head", 0), ("item", "s")], {"t": "x"}
        found = list_pairs(builder, row, "ids", spots, before, before, fixed=fixed)
        found[0].words["t"] = "y"
        self.assertEqual((spots, before, fixed, row), (["b"], [("head", 0), ("item", "s")], {"t": "x"}, {"owner": "b"}))
        self.assertEqual({pair.words["t"] for pair in list_pairs(builder, row, "ids", spots, before, before,
                                                                 fixed=fixed)}, {"x"})


if __name__ == "__main__":
    unittest.main()
