import itertools
import random
import unittest

from slipreach.leastsets import good_sets, least_covers, least_good, spoiled, subsets, turns


def plain_subsets(things):
    return [one for count in range(len(things) + 1) for one in itertools.combinations(things, count)]


def some_good(chance, things):
    """A function that says of each set whether it is good, by chance, and a list of its calls."""
    good = {one: chance.random() < chance.choice([0.2, 0.5, 0.8]) for one in plain_subsets(things)}
    calls = []

    def ask(one):
        calls.append(one)
        return good[one]
    return good, ask, calls


def some_things(chance, most=6):
    pool = ["a", "b", "c", ("some", "a"), ("top", "b"), "f"]
    chance.shuffle(pool)
    things = pool[:chance.randint(0, most)]
    return tuple(things) if chance.random() < 0.5 else things


class Sets(unittest.TestCase):
    def test_subsets(self):
        self.assertEqual(list(subsets([])), [()])
        self.assertEqual(list(subsets(("b", "a"))), [(), ("b",), ("a",), ("b", "a")])
        for seed in range(20):
            things = some_things(random.Random(seed))
            self.assertEqual(list(subsets(things)), plain_subsets(things))
        found = subsets(["a", "b"])
        self.assertIs(iter(found), found)
        self.assertEqual(next(found), ())

    def test_least_and_good_sets(self):
        for seed in range(200):
            chance = random.Random(seed)
            things = some_things(chance)
            good, ask, calls = some_good(chance, things)
            order = plain_subsets(things)
            self.assertEqual(good_sets(things, ask), [one for one in order if good[one]])
            self.assertEqual(calls, order)
            calls.clear()
            lesser = {one: [other for other in order if good[other] and set(other) < set(one)] for one in order}
            self.assertEqual(least_good(things, ask), [one for one in order if good[one] and not lesser[one]])
            self.assertEqual(calls, [one for one in order if not lesser[one]])

    def test_spoiled(self):
        self.assertEqual(spoiled(["a"], lambda one: one == ()), [((), "a")])
        self.assertEqual(spoiled(["a"], lambda one: True), [])
        for seed in range(100):
            chance = random.Random(seed)
            things = some_things(chance, 5)
            good, ask, _ = some_good(chance, things)
            order = plain_subsets(things)
            wanted = [(one, thing) for one in order if good[one] for thing in things if thing not in one
                      and not good[tuple(other for other in things if other in one or other == thing)]]
            self.assertEqual(spoiled(things, ask), wanted)

    def test_turns(self):
        self.assertEqual(turns([], lambda one: True), (0, ()))
        self.assertEqual(turns(["a", "b"], lambda one: True), (0, ("a", "b")))
        self.assertEqual(turns(["a", "b"], lambda one: one == ("b",)), (2, ("b", "a")))
        for seed in range(60):
            chance = random.Random(seed)
            things = some_things(chance, 5)
            good, ask, _ = some_good(chance, things)

            def count(order):
                path = [good[tuple(thing for thing in things if thing in order[:k])] for k in range(len(order) + 1)]
                return sum(one != other for one, other in zip(path, path[1:]))
            orders = list(itertools.permutations(things))
            most = max(count(order) for order in orders)
            self.assertEqual(turns(things, ask), (most, [order for order in orders if count(order) == most][0]))

    def test_least_covers(self):
        self.assertEqual(least_covers([]), [()])
        self.assertEqual(least_covers([()]), [])
        self.assertEqual(least_covers([("a",), ()]), [])
        self.assertEqual(least_covers([("b", "a", "b"), ("b", "a")]), [("b",), ("a",)])
        self.assertEqual(least_covers([("a", "b"), ("c", "b"), ("a", "b")]), [("b",), ("a", "c")])
        for seed in range(100):
            chance = random.Random(seed)
            sets = [tuple(chance.choice("abcdef") for _ in range(chance.randint(1, 4)))
                    for _ in range(chance.randint(1, 5))]
            pool = list(dict.fromkeys(thing for row in sets for thing in row))
            covers = [one for one in plain_subsets(pool) if all(set(one) & set(row) for row in sets)]
            self.assertEqual(least_covers(sets), [one for one in covers
                                                  if not any(set(other) < set(one) for other in covers)])


if __name__ == "__main__":
    unittest.main()
