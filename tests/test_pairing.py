import random
import unittest

from houses import OWNER, FileMaker, files_of, house_of, some_pair, some_rule
from slipreach.conditions import parting
from slipreach.errors import BadFiles, BadPair
from slipreach.kinds import Setting
from slipreach.language import Language
from slipreach.pairing import DIFFERENCES, Group, Pair, Parting, shown
from slipreach.playing import tried
from slipreach.rowkinds import Table


def words_of(name, *elders):
    return Setting(name, "word", elders=elders)


def told(group):
    return (group.words, group.first, group.second)


class Pairs(unittest.TestCase):
    def test_bad_pairs(self):
        house = house_of([words_of("a")], "take", OWNER, 2)
        for first, second, what in [
                (house, house_of([words_of("a")], "take", Table(["maker"]), 1, Language(bare=True)), "language"),
                (house, house_of([words_of("a")], "take", Table(["maker"]), 1), "layers"),
                (house, house_of([words_of("a")], "take", Table(["maker"]), 2), "table")]:
            for one, other in ((first, second), (second, first)):
                for call in (lambda: Pair(one, other), lambda: shown(one, other, [])):
                    with self.assertRaises(BadPair) as caught:
                        call()
                    self.assertEqual(caught.exception.what, what)
        pair = Pair(house, house)
        self.assertIs(pair.first, house)
        self.assertIs(pair.second, house)

    def test_groups(self):
        first = house_of([words_of("m", "b"), words_of("c"), words_of("e", "z")], "take")
        second = house_of([words_of("x", "c", "m"), words_of("a"), words_of("e")], "take")
        groups = Pair(first, second).groups()
        self.assertEqual([told(group) for group in groups], [
            (("a",), (), ("a",)), (("b", "c", "m", "x"), ("m", "c"), ("x",)), (("e", "z"), ("e",), ("e",)),
            ((), (), ())])
        self.assertTrue(all(type(group) is Group for group in groups))
        self.assertTrue("x" in groups[1] and "b" in groups[1])
        self.assertFalse("a" in groups[1] or "odd" in groups[1] or "odd" in groups[3] or "e" in groups[3])
        self.assertEqual([told(group) for group in Pair(first, first).groups()],
                         [(("b", "m"), ("m",), ("m",)), (("c",), ("c",), ("c",)), (("e", "z"), ("e",), ("e",)),
                          ((), (), ())])

    def test_linked_by_others(self):
        first = house_of([words_of("a", "b"), words_of("c", "d")], "take")
        second = house_of([words_of("d", "b"), words_of("q")], "take")
        self.assertEqual([told(group) for group in Pair(first, second).groups()],
                         [(("a", "b", "c", "d"), ("a", "c"), ("d",)), (("q",), (), ("q",)), ((), (), ())])
        apart = Pair(house_of([words_of("b")], "take"), house_of([words_of("a")], "take"))
        self.assertEqual([told(group) for group in apart.groups()],
                         [(("a",), (), ("a",)), (("b",), ("b",), ()), ((), (), ())])

    def test_groups_of_random_pairs(self):
        """Groups part the names; linked names stand together, and no smaller groups do this."""
        for seed in range(100):
            first, second = some_pair(random.Random(seed))
            groups = Pair(first, second).groups()
            self.assertEqual([group.words for group in groups[:-1]], sorted(group.words for group in groups[:-1]))
            self.assertEqual(told(groups[-1]), ((), (), ()))
            for house, side in ((first, "first"), (second, "second")):
                names = [name for group in groups for name in getattr(group, side)]
                self.assertEqual(sorted(names), sorted(house.schema.names))
                for setting in house.schema:
                    for word in (setting.name, *setting.elders):
                        own = [group for group in groups if word in group]
                        self.assertEqual(len(own), 1)
                        self.assertIn(setting.name, getattr(own[0], side))
            for group in groups[:-1]:
                self.assertEqual(self.reached(first, second, group.words[0]), set(group.words))

    def reached(self, first, second, word):
        found, queue = set(), [word]
        while queue:
            one = queue.pop()
            if one not in found:
                found.add(one)
                for schema in (first.schema, second.schema):
                    name = schema.called(one)
                    queue.extend([] if name is None else [name, *schema.setting(name).elders])
        return found


class Shown(unittest.TestCase):
    def test_differences(self):
        self.assertEqual(DIFFERENCES, ("first", "second", "more", "less"))
        one = house_of([words_of("a")], "or owner is @a\ntake")
        other = house_of([words_of("a"), words_of("b")], "or owner is @b\ntake")
        for text, wanted in [("", ()), ("a = x;", ("more",)), ("b = x;", ("first",)), ("c = x;", ()), ("a", ()),
                             ("a = x; b = y;", ("first",))]:
            self.assertEqual(shown(one, other, files_of(text)), wanted)
        self.assertEqual(shown(other, one, files_of("b = x;")), ("second",))
        self.assertEqual(shown(other, one, files_of("a = x;")), ("less",))
        both = house_of([words_of("a")], "or owner is @a\nif given @a\n  not\ntake")
        self.assertEqual(shown(one, both, files_of("a = x;")), ("more", "less"))
        for files in ([], [None, None]):
            with self.assertRaises(BadFiles) as caught:
                shown(one, other, files)
            self.assertEqual(caught.exception.count, len(files))

    def test_random_files(self):
        found = set()
        for seed in range(80):
            chance = random.Random(seed)
            first, second = some_pair(chance)
            maker = FileMaker(chance, chance.choice([first, second]), some_rule(chance))
            for _ in range(15):
                files = maker.files()
                one, other = tried(first, files)[0], tried(second, files)[0]
                wanted = ("first",) if one is None else ("second",)
                if one is None and other is None:
                    wanted = ()
                elif one is not None and other is not None:
                    rows = parting(one.condition, other.condition)
                    wanted = tuple(word for word, row in zip(("more", "less"), rows) if row is not None)
                self.assertEqual(shown(first, second, files), wanted)
                found.add(wanted)
        self.assertTrue({(), ("first",), ("second",), ("more",), ("less",)} <= found, found)

    def test_partings(self):
        files, row = [["a"], None], {"owner": "x"}
        one = Parting("more", files, row, 3)
        files[0].clear()
        row.clear()
        self.assertEqual((one.difference, one.files, one.row, one.weight), ("more", [["a"], None], {"owner": "x"}, 3))
        self.assertIsNone(Parting("first", [None], None, 0).row)


if __name__ == "__main__":
    unittest.main()
