import itertools
import random
import unittest

from samples import some_move, some_schema
from slipreach.errors import BadMove, BadSetting
from slipreach.kinds import Setting
from slipreach.moves import Add, Drop, Move, Preset, Rename, Split, Wrap
from slipreach.schema import Schema
from slipreach.tokens import is_word

PARTS = ("name", "kind", "words", "default", "elders", "join", "demand", "filled")


def parts_of(schema):
    return [{part: getattr(setting, part) for part in PARTS} for setting in schema]


def applied_by_hand(move, rows, rules):
    """The parts of the later settings, or the name that is refused in a tuple."""
    names = [row["name"] for row in rows]
    known = [word for row in rows for word in (row["name"], *row["elders"])]
    kind = move.__class__.__name__
    old = getattr(move, "old", getattr(move, "name", None))
    row = rows[names.index(old)] if old in names else None
    news = [dict(one) for one in rows]
    new = news[names.index(old)] if row else None
    if kind == "Add":
        if len(rows) == 4 or move.setting.demand != "no" or {move.setting.name, *move.setting.elders} & set(known):
            return (move.setting.name,)
        return news + parts_of([move.setting])
    if row is None:
        return (old,)
    if kind == "Rename":
        if not is_word(move.new) or move.new in known:
            return (move.new,)
        if move.kept and len(row["elders"]) == 2:
            return (old,)
        new.update(name=move.new, elders=(old, *row["elders"]) if move.kept else row["elders"])
    if kind == "Drop":
        if len(rows) == 1:
            return (old,)
        news.remove(new)
    if kind == "Preset":
        new["default"] = move.default
        loses = row["default"] == () and move.default != () and (row["filled"] or rules["empty"] == "lacks")
        if row["demand"] != "no" or loses:
            return (old,)
        try:
            Setting(**new)
        except BadSetting:
            return (old,)
    if kind == "Wrap":
        if row["kind"] in ("number", "list"):
            return (old,)
        new.update(kind="list", words=(), join=False, filled=False,
                   default=None if row["default"] is None else (row["default"],))
    if kind == "Split":
        if len(rows) == 4:
            return (old,)
        if not is_word(move.other) or move.other in known:
            return (move.other,)
        news.append({**row, "name": move.other, "elders": ()})
    return news


class Moves(unittest.TestCase):
    def check(self, schema, move):
        before, rules = parts_of(schema), schema.rules()
        wanted = applied_by_hand(move, before, rules)
        if isinstance(wanted, tuple):
            with self.assertRaises(BadMove) as caught:
                move.applied(schema)
            self.assertEqual(caught.exception.name, wanted[0])
        else:
            later = move.applied(schema)
            self.assertEqual(parts_of(later), wanted)
            self.assertEqual(later.rules(), rules)
        self.assertEqual(parts_of(schema), before)
        self.assertEqual(schema.rules(), rules)
        return move.__class__.__name__, isinstance(wanted, tuple)

    def test_any_moves(self):
        chance = random.Random(51)
        found = set()
        for _ in range(3000):
            schema = some_schema(chance)
            found.add(self.check(schema, some_move(chance, schema)))
        self.assertEqual(len(found), 12)

    def test_rename(self):
        schema = Schema([Setting("a", "word", elders=("b", "c")), Setting("d", "number", default=3, elders=("e",))],
                        doubled="last", empty="lacks")
        for move, wanted in [(Rename("x", "y"), "x"), (Rename("b", "y"), "b"), (Rename("d", "a"), "a"),
                             (Rename("d", "c"), "c"), (Rename("d", "e"), "e"), (Rename("d", "d"), "d"),
                             (Rename("d", "No"), "No"), (Rename("d", "a b"), "a b"), (Rename("d", ""), ""),
                             (Rename("d", "abcdefghijklm"), "abcdefghijklm"), (Rename("a", "y"), "a"),
                             (Rename("a", "b"), "b"), (Rename("x", "b"), "x")]:
            self.check(schema, move)
            with self.assertRaises(BadMove) as caught:
                move.applied(schema)
            self.assertEqual(caught.exception.name, wanted)
        later = Rename("d", "y").applied(schema)
        self.assertEqual([(row.name, row.elders) for row in later], [("a", ("b", "c")), ("y", ("d", "e"))])
        later = Rename("a", "y", kept=False).applied(schema)
        self.assertEqual([(row.name, row.elders) for row in later], [("y", ("b", "c")), ("d", ("e",))])

    def test_drop_add_split(self):
        one = Schema([Setting("a", "word", elders=("b",))])
        self.check(one, Drop("a"))
        self.check(one, Drop("b"))
        for setting in [Setting("a", "list"), Setting("b", "list"), Setting("c", "list", elders=("a",)),
                        Setting("c", "list", elders=("d", "b")), Setting("c", "list", demand="some"),
                        Setting("c", "list", demand="top")]:
            self.assertEqual(self.check(one, Add(setting)), ("Add", True))
        self.assertEqual(self.check(one, Add(Setting("c", "list", elders=("d",), default=()))), ("Add", False))
        four = Schema([Setting(name, "word", elders=(2 * name,)) for name in "abcd"])
        self.assertEqual(self.check(four, Add(Setting("e", "word"))), ("Add", True))
        for move, wanted in [(Split("a", "x"), "a"), (Split("x", "a"), "x"), (Split("aa", "x"), "aa")]:
            with self.assertRaises(BadMove) as caught:
                move.applied(four)
            self.assertEqual(caught.exception.name, wanted)
        for name in "abcd":
            later = Drop(name).applied(four)
            self.assertEqual(list(later.names), [word for word in "abcd" if word != name])
            self.assertIsNone(later.called(2 * name))
        for other, wanted in [("a", "a"), ("b", "b"), ("Odd", "Odd"), (None, None)]:
            with self.assertRaises(BadMove) as caught:
                Split("a", other).applied(one)
            self.assertEqual(caught.exception.name, wanted)
        top = Schema([Setting("a", "list", join=True, filled=True, demand="top", elders=("b",)), Setting("c", "word")])
        later = Split("a", "d").applied(top)
        self.assertEqual(later.names, ("a", "c", "d"))
        self.assertEqual(later.setting("d"), Setting("d", "list", join=True, filled=True, demand="top"))

    def test_preset(self):
        for empty, filled, new in itertools.product(("given", "lacks"), (False, True), [None, (), ("a",)]):
            schema = Schema([Setting("a", "list", default=(), filled=filled)], empty=empty)
            refused = new != () and (filled or empty == "lacks")
            self.assertEqual(self.check(schema, Preset("a", new)), ("Preset", refused))
        for setting, default, refused in [
                (Setting("a", "choice", words=("p", "q"), default="p"), "q", False),
                (Setting("a", "choice", words=("p", "q")), "r", True), (Setting("a", "word"), 3, True),
                (Setting("a", "number"), 10 ** 9 - 1, False), (Setting("a", "number"), 10 ** 9, True),
                (Setting("a", "number", default=3), None, False), (Setting("a", "number"), True, True),
                (Setting("a", "list"), ("a",) * 8, False), (Setting("a", "list"), ("a",) * 9, True),
                (Setting("a", "list"), ("a b",), True), (Setting("a", "list"), ["a"], True),
                (Setting("a", "word", demand="some"), "p", True), (Setting("a", "word", demand="top"), None, True)]:
            self.assertEqual(self.check(Schema([setting]), Preset("a", default)), ("Preset", refused))
        self.assertEqual(self.check(Schema([Setting("a", "word", elders=("b",))]), Preset("b", "p")), ("Preset", True))

    def test_wrap(self):
        for demand, elders in itertools.product(("no", "some", "top"), ((), ("b", "c"))):
            for setting in [Setting("a", "word", demand=demand, elders=elders),
                            Setting("a", "choice", words=("p", "q"), demand=demand, elders=elders)]:
                later = Wrap("a").applied(Schema([setting]))
                self.assertEqual(list(later), [Setting("a", "list", demand=demand, elders=elders)])
        later = Wrap("a").applied(Schema([Setting("z", "list"), Setting("a", "choice", words=("p",), default="p")]))
        self.assertEqual(list(later), [Setting("z", "list"), Setting("a", "list", default=("p",))])
        for setting in (Setting("a", "number"), Setting("a", "list")):
            self.assertEqual(self.check(Schema([setting]), Wrap("a")), ("Wrap", True))

    def test_attributes_and_equality(self):
        setting = Setting("a", "word")
        groups = [[Rename("a", "b"), Rename("a", "b", kept=True)], [Rename("a", "b", kept=False)], [Rename("b", "a")],
                  [Rename("a", "c")], [Rename("c", "b")], [Drop("a"), Drop("a")], [Drop("b")], [Wrap("a"), Wrap("a")], [Wrap("b")],
                  [Add(setting), Add(Setting("a", "word"))], [Add(Setting("b", "word"))],
                  [Preset("a", None), Preset("a", None)], [Preset("a", ("p",))], [Preset("b", None)],
                  [Split("a", "b"), Split("a", "b")], [Split("b", "a")], [Split("a", "c")], [Split("c", "b")]]
        rows = [(at, move) for at, group in enumerate(groups) for move in group]
        for (one, first), (other, second) in itertools.product(rows, repeat=2):
            self.assertIs(first == second, one == other)
            self.assertIsInstance(first, Move)
        for thing in (None, "a", ("a",), setting):
            self.assertFalse(Drop("a") == thing)
        move = Rename("a", "b", kept=False)
        self.assertEqual((move.old, move.new, move.kept), ("a", "b", False))
        self.assertEqual((Drop("a").name, Add(setting).setting, Preset("a", 4).name, Preset("a", 4).default),
                         ("a", setting, "a", 4))
        self.assertEqual((Wrap("w").name, Split("a", "b").name, Split("a", "b").other), ("w", "a", "b"))


if __name__ == "__main__":
    unittest.main()
