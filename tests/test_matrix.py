import random
import unittest

from houses import OWNER, house_of, some_like, some_pair
from slipreach.alike import alike
from slipreach.errors import BadHouses, BadPair, NoHouse
from slipreach.kinds import Setting
from slipreach.language import Language
from slipreach.matrix import Matrix
from slipreach.rowkinds import Table

NOTE = Setting("note", "word")
TEXT = "or owner is @note\ntake"


def house(text=TEXT, note=NOTE, layers=1, table=OWNER, language=None, **rules):
    return house_of([note], text, table, layers, language, **rules)


def some_houses():
    """Three classes one above another, one of two names, and one house beside them."""
    return {"c": house(doubled="last", unknown="pass"), "a": house(), "b": house(doubled="last"),
            "d": house(text="not\nnot\n" + TEXT), "z": house(text="none\ntake".replace("none", "or none"))}


class Matrices(unittest.TestCase):
    def test_bad_houses(self):
        for count in (0, 7, 8):
            with self.assertRaises(BadHouses) as caught:
                Matrix({"abcdefgh"[at]: house(layers=1 + at % 2) for at in range(count)})
            self.assertEqual(caught.exception.count, count)
        for count in (1, 6):
            self.assertEqual(len(Matrix({"fedcba"[at]: house() for at in range(count)}).names), count)
        one, layers = house(), house(layers=2)
        table, language = house("take", table=Table(["maker"])), house(language=Language(bare=True), layers=2)
        for houses, what in [({"a": one, "b": layers}, "layers"), ({"a": one, "b": one, "c": table}, "table"),
                             ({"b": one, "c": layers, "a": language}, "language"),
                             ({"c": layers, "b": table, "a": one}, "table"),
                             ({"c": table, "b": layers, "a": one}, "layers")]:
            with self.assertRaises(BadPair) as caught:
                Matrix(houses)
            self.assertEqual(caught.exception.what, what)

    def test_relations(self):
        houses = some_houses()
        matrix = Matrix(houses)
        self.assertEqual(matrix.names, ("a", "b", "c", "d", "z"))
        houses.clear()
        wanted = {"a": ["alike", "keeps", "keeps", "alike", "apart"], "b": ["apart", "alike", "keeps", "apart", "apart"],
                  "c": ["apart", "apart", "alike", "apart", "apart"],
                  "d": ["alike", "keeps", "keeps", "alike", "apart"], "z": ["apart"] * 4 + ["alike"]}
        for name in wanted:
            self.assertEqual([matrix.relation(name, other) for other in matrix.names], wanted[name])
        self.assertEqual(matrix.likeness("a", "b").differences, ("first",))
        self.assertEqual(matrix.likeness("b", "a").differences, ("second",))
        self.assertEqual(matrix.likeness("a", "a").word, "alike")
        self.assertEqual(matrix.classes(), [("a", "d"), ("b",), ("c",), ("z",)])
        self.assertEqual(matrix.leads(), [("a", "b"), ("b", "c")])
        self.assertEqual(matrix.all_keeping(), ())
        self.assertEqual(matrix.page()[0], "a             alike keeps keeps alike apart")
        self.assertEqual([len(line) for line in matrix.page()], [13 + 5 * 6] * 5)
        self.assertEqual([line[:13].rstrip() for line in matrix.page()], list(matrix.names))

    def test_broken(self):
        matrix = Matrix(some_houses())
        for names, wanted in [([], None), (["z"], None), (["a", "b", "c"], None), (("a", "d", "a", "c"), None),
                              (["b", "a"], 0), (["a", "b", "a", "c"], 1), (["a", "c", "z", "z"], 1), (["z", "z"], None)]:
            self.assertEqual(matrix.broken(names), wanted)

    def test_no_house(self):
        matrix = Matrix(some_houses())
        for call, bad in [(lambda: matrix.relation("q", "r"), "q"), (lambda: matrix.relation("a", "r"), "r"),
                          (lambda: matrix.likeness(None, "a"), None), (lambda: matrix.likeness("a", ["a"]), ["a"]),
                          (lambda: matrix.broken(["b", "a", 3, "q"]), 3), (lambda: matrix.broken(("odd",)), "odd")]:
            with self.assertRaises(NoHouse) as caught:
                call()
            self.assertEqual(caught.exception.name, bad)

    def test_all_keeping(self):
        houses = some_houses()
        del houses["z"]
        self.assertEqual(Matrix(houses).all_keeping(), ("c",))
        del houses["c"]
        houses["e"] = house(doubled="last", text="not\nnot\n" + TEXT)
        self.assertEqual(Matrix(houses).all_keeping(), ("b", "e"))
        self.assertEqual(Matrix(houses).leads(), [("a", "b")])

    def test_random_houses(self):
        for seed in range(40):
            chance = random.Random(seed)
            first, _ = some_pair(chance)
            houses = {"m": first}
            for name in chance.sample(["a", "b", "x", "z"], chance.randint(0, 3)):
                houses[name] = some_like(chance, chance.choice(list(houses.values())))
            matrix = Matrix(houses)
            names = sorted(houses)
            table = {}
            for one in names:
                for other in names:
                    found = alike(houses[one], houses[other]).differences
                    table[one, other] = {(): "alike", ("first",): "keeps"}.get(found, "apart")
                    self.assertEqual(matrix.relation(one, other), table[one, other])
                    self.assertEqual(matrix.likeness(one, other).differences, found)
            classes = []
            for name in names:
                row = tuple(other for other in names if table[name, other] == "alike")
                if row not in classes:
                    classes.append(row)
            self.assertEqual(matrix.classes(), classes)
            keeps = {(one[0], other[0]) for one in classes for other in classes if table[one[0], other[0]] == "keeps"}
            leads = [(one, other) for one, other in sorted(keeps)
                     if not any((one, name) in keeps and (name, other) in keeps for name in names)]
            self.assertEqual(matrix.leads(), leads)
            self.assertEqual(matrix.all_keeping(), tuple(
                name for name in names if all(table[other, name] != "apart" for other in names)))
            self.assertEqual(matrix.page(), [
                f"{one:<13}" + "".join(f"{table[one, other]:>6}" for other in names) for one in names])


if __name__ == "__main__":
    unittest.main()
