import itertools
import random
import unittest

from houses import OWNER, house_of, many_house, some_pair
from slipreach.alike import Likeness, alike, parting_fault
from slipreach.errors import BadDifference, BadFiles, BadPair, TooManyConducts
from slipreach.house import weight
from slipreach.joints import house_numbers, house_words
from slipreach.kinds import Setting
from slipreach.language import Language
from slipreach.pairing import DIFFERENCES, Parting, shown
from slipreach.rowkinds import Table
from slipreach.writer import plain

ROWS = Setting("rows", "list")
NOTE = Setting("note", "word")
TEXT = "for @rows\n  or owner is item\nor owner is @note\ntake"


def standard(settings=(ROWS, NOTE), text=TEXT, layers=1, table=OWNER, language=None, **rules):
    return house_of(list(settings), text, table, layers, language, **rules)


class EntryMaker:
    """Makes random entries that matter for two houses."""

    def __init__(self, chance, first, second):
        told = {*house_numbers(first), *house_numbers(second)}
        words = sorted({*house_words(first), *house_words(second), "yes", "zz", "zy"})
        self.chance, self.language = chance, first.language
        self.singles = [word for word in words if " " not in word]
        self.items = words + ["zz zy"] if self.language.comma == "joins" else self.singles
        self.numbers = sorted({number + more for number in told for more in (0, 1, 2)})
        self.names = [word for house in (first, second) for setting in house.schema
                      for word in (setting.name, *setting.elders)] + ["strange"]

    def value(self):
        kind = self.chance.random()
        if kind < 0.1 and self.language.nothing:
            return None
        if kind < 0.4:
            return self.chance.choice(self.singles)
        if kind < 0.55:
            return self.chance.choice(self.numbers)
        return tuple(self.chance.choice(self.items) for _ in range(self.chance.randint(0, 3)))

    def files(self, layers):
        rows = [[(self.chance.choice(self.names), self.value()) for _ in range(self.chance.choice([0, 1, 1, 2, 3]))]
                for _ in range(layers)]
        return [None if self.chance.random() < 0.15 else plain(self.language, row) for row in rows]


class Alike(unittest.TestCase):
    def check(self, first, second, differences, weights=()):
        found = alike(first, second)
        self.assertEqual(type(found), Likeness)
        self.assertIs(found.first, first)
        self.assertIs(found.second, second)
        self.assertEqual((found.word, found.differences), ("apart" if differences else "alike", differences))
        self.assertIs(found.keeps, set(differences) <= {"first"})
        for word in DIFFERENCES:
            parting = found.parting(word)
            self.assertEqual(parting is None, word not in differences)
            if parting is not None:
                self.assertEqual((type(parting), parting.difference), (Parting, word))
                self.assertIsNone(parting_fault(first, second, parting))
        for word, wanted in weights:
            self.assertEqual(found.parting(word).weight, wanted)
        return found

    def test_plain_pairs(self):
        house = standard()
        self.check(house, house, ())
        self.check(house, standard((NOTE, ROWS), "for @rows\n  or owner is item\nor owner is @note\nnot\nnot\ntake"), ())
        self.check(house, standard((ROWS, NOTE.changed(elders=["remark"]))), ("first",), [("first", 1)])
        self.check(standard((ROWS, NOTE.changed(elders=["remark"]))), house, ("second",), [("second", 1)])
        self.check(house, standard(doubled="last"), ("first",), [("first", 2)])
        self.check(standard(doubled="first"), standard(doubled="last"), ("more", "less"), [("more", 2), ("less", 2)])
        self.check(standard(doubled="first"), standard(doubled="join"), ("more", "less"), [("more", 2), ("less", 2)])
        self.check(house, standard(unknown="pass"), ("first",), [("first", 1)])
        self.check(house, standard(text="or owner in @rows\nor owner is @note\ntake"), ("less",), [("less", 1)])

    def test_renamed(self):
        one, other = standard((ROWS,), "or owner in @rows\ntake"), standard((ROWS.changed(name="lines"),),
                                                                            "or owner in @lines\ntake")
        self.check(one, other, ("first", "second"), [("first", 1), ("second", 1)])
        kept = standard((ROWS.changed(name="lines", elders=["rows"]),), "or owner in @lines\ntake")
        self.check(one, kept, ("first",))
        passing = [standard((setting,), f"or owner in @{setting.name}\ntake", unknown="pass")
                   for setting in (ROWS, ROWS.changed(name="lines"))]
        self.check(*passing, DIFFERENCES, [(word, 1) for word in DIFFERENCES])

    def test_all_stages(self):
        house = standard()
        refusing = standard(text="if @note is 'odd'\n  refuse\n" + TEXT)
        self.check(house, refusing, ("second",), [("second", 1)])
        self.check(refusing, house, ("first",))
        demand = standard((ROWS.changed(filled=True), NOTE.changed(demand="some")))
        self.check(house, demand, ("second",), [("second", 0)])
        both = standard((ROWS, NOTE.changed(demand="top")), layers=2)
        self.check(standard(layers=2), both, ("second",), [("second", 0)])
        wrong = standard((ROWS, Setting("note", "choice", words=("a", "b"))))
        self.check(house, wrong, ("second",), [("second", 1)])

    def test_layers(self):
        join = ROWS.changed(join=True)
        self.check(standard((join, NOTE)), standard(), ())
        self.check(standard((join, NOTE), layers=2), standard(layers=2), ("more", "less"), [("more", 3), ("less", 4)])
        self.check(standard(layers=2, empty="lacks"), standard(layers=2), ("more", "less"), [("more", 3), ("less", 4)])
        nothing = Language(nothing=True)
        pair = [standard(layers=2, language=nothing, nothing=word) for word in ("clears", "lacks")]
        self.check(*pair, ("more", "less"), [("more", 4), ("less", 2)])

    def test_defaults_and_numbers(self):
        table = Table([], ["size"])
        most = Setting("most", "number")
        for text, other, differences in [
                ("or size below @most\ntake", "or size below 3\ntake", ("more", "less")),
                ("if @most below 3\n  or size below 3\ntake", "if @most below 4\n  or size below 3\ntake", ("less",)),
                ("if @most is 3\n  refuse\ntake", "if @most least 3\n  if @most below 4\n    refuse\ntake", ()),
                ("or size least 3\ntake", "or size below 3\nnot\ntake", ()),
                ("or size is 3\ntake", "or size is 4\ntake", ("more", "less"))]:
            self.check(standard((most,), text, 1, table), standard((most,), other, 1, table), differences)
        given, absent = standard((NOTE.changed(default="x"),), "or owner is @note\ntake"), standard(
            (NOTE,), "if given @note\n  or owner is @note\nelse\n  or owner is 'x'\ntake")
        self.check(given, absent, ())
        cleared = [standard(tuple(house.schema), house.builder.text, 1, OWNER, Language(nothing=True))
                   for house in (given, absent)]
        self.check(*cleared, ())

    def test_errors(self):
        house = standard()
        for other, what in [(standard(language=Language(bare=True)), "language"), (standard(layers=2), "layers"),
                            (standard((NOTE,), "take", 1, Table(["maker"])), "table")]:
            for call in (lambda: alike(house, other), lambda: parting_fault(house, other, Parting("odd", [], 3, 3))):
                with self.assertRaises(BadPair) as caught:
                    call()
                self.assertEqual(caught.exception.what, what)
        found = alike(house, standard(doubled="last"))
        for word in ("", "third", None, 1, ["first"], ("first",)):
            with self.assertRaises(BadDifference) as caught:
                found.parting(word)
            self.assertEqual(caught.exception.word, word)
        with self.assertRaises(TooManyConducts) as caught:
            alike(many_house(), many_house())
        self.assertEqual(caught.exception.most, 60)

    def test_random_pairs(self):
        """Random files show no difference that is not found, and none by less weight."""
        count, shown_words = 0, set()
        for seed in range(250):
            chance = random.Random(seed)
            first, second = some_pair(chance)
            found = alike(first, second)
            self.check(first, second, found.differences)
            shown_words |= {found.differences}
            maker = EntryMaker(chance, first, second)
            for _ in range(80):
                files = maker.files(first.layers)
                for word in shown(first, second, files):
                    self.assertIn(word, found.differences, (seed, files))
                    self.assertLessEqual(found.parting(word).weight, weight(first, files), (seed, files))
                    count += 1
        self.assertGreater(count, 3000)
        self.assertGreater(len(shown_words), 12)

    def test_all_files_of_few_entries(self):
        """Least weights against all files of at most two light entries."""
        for seed in range(60):
            chance = random.Random(seed)
            first, second = some_pair(chance)
            if first.layers > 1:
                continue
            found, maker = alike(first, second), EntryMaker(chance, first, second)
            values = [*maker.singles, *maker.numbers, (), *[(item,) for item in maker.items]]
            values += [None] if first.language.nothing else []
            letters = [(name, value) for name in dict.fromkeys(maker.names) for value in values]
            rows = [[], *[[letter] for letter in letters]]
            if len(letters) < 60:
                rows += [list(pair) for pair in itertools.product(letters, repeat=2)]
            least = {}
            for row in rows:
                files = [plain(first.language, row)]
                for word in shown(first, second, files):
                    least[word] = min(least.get(word, 99), weight(first, files))
            for word in found.differences:
                most = 2 if len(letters) < 60 else 1
                if found.parting(word).weight <= most:
                    self.assertEqual(least.get(word), found.parting(word).weight, (seed, word))
            self.assertLessEqual(set(least), set(found.differences))

    def test_partings_are_new(self):
        found = alike(standard(doubled="first"), standard(doubled="last"))
        found.parting("more").files[0].clear()
        found.parting("more").row.clear()
        self.assertIsNone(parting_fault(found.first, found.second, found.parting("more")))


class Faults(unittest.TestCase):
    def test_each_fault(self):
        first, second = standard(doubled="first"), standard(doubled="last", unknown="pass")
        file = plain(first.language, [("note", "a"), ("note", "b")])
        good = Parting("more", [file], {"owner": "b"}, 2)
        self.assertIsNone(parting_fault(first, second, good))
        odd = plain(first.language, [("odd", "a")])
        for word, files, row, wanted, fault in [
                ("odd", [odd], 3, 3, "difference"), (None, [["="]], 3, 3, "difference"),
                ("more", [odd], 3, 9, "files"), ("first", [file], 3, 9, "files"), ("second", [odd], 3, 9, "files"),
                ("first", [["="]], None, 0, "files"), ("less", [["="]], None, 0, "files"),
                ("more", [file], None, 9, "row"), ("more", [file], {"owner": "a"}, 9, "row"),
                ("more", [file], {"owner": "c"}, 9, "row"), ("more", [file], {"size": 1}, 2, "row"),
                ("less", [file], {"owner": "b"}, 2, "row"), ("first", [odd], {"owner": "b"}, 9, "row"),
                ("more", [file], {"owner": "b"}, 3, "weight"), ("first", [odd], None, 0, "weight"),
                ("less", [file], {"owner": "a"}, 2, None), ("first", [odd], None, 1, None)]:
            self.assertEqual(parting_fault(first, second, Parting(word, files, row, wanted)), fault, (word, files, row))
        for files in ([], [file, None]):
            with self.assertRaises(BadFiles) as caught:
                parting_fault(first, second, Parting("odd", files, None, 0))
            self.assertEqual(caught.exception.count, len(files))


if __name__ == "__main__":
    unittest.main()
