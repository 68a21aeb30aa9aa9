import itertools
import random
import unittest

from samples import some_direct_edition, some_edition, some_schema
from slipreach.editions import Edition, reused
from slipreach.errors import BadEdition, BadMove
from slipreach.kinds import Setting
from slipreach.moves import Add, Drop, Preset, Rename, Split, Wrap
from slipreach.schema import Schema

NO_NAMES = ["odd", "", None, 1, True, ("a",), ["a"]]


def schema_of(*settings, **rules):
    return Schema(list(settings), **rules)


def origins(edition):
    return {name: (edition.source(name), edition.is_wrapped(name)) for name in edition.later.names}


def words_of(schema):
    return [word for setting in schema for word in (setting.name, *setting.elders)]


class OfMoves(unittest.TestCase):
    def setUp(self):
        self.elder = schema_of(Setting("a", "word", elders=("o",)), Setting("b", "number", default=3),
                               Setting("c", "choice", words=("p", "q")))

    def test_no_moves(self):
        edition = Edition(self.elder, ())
        self.assertEqual((edition.elder, edition.later), (self.elder, self.elder))
        self.assertEqual(origins(edition), {name: (name, False) for name in "abc"})

    def test_sources_and_wrapped(self):
        moves = [Rename("a", "x"), Wrap("x"), Split("x", "y"), Drop("b"), Add(Setting("d", "word")), Wrap("d")]
        edition = Edition(self.elder, moves)
        self.assertEqual(edition.later.names, ("x", "c", "y", "d"))
        self.assertEqual(origins(edition), {"x": ("a", True), "c": ("c", False), "y": ("a", True), "d": (None, False)})
        self.assertEqual([edition.targets(name) for name in "abc"], [["x", "y"], [], ["c"]])
        later = Edition(self.elder, [Split("a", "y"), Wrap("a"), Drop("b"), Split("y", "z"), Wrap("z"),
                                     Rename("z", "v")])
        self.assertEqual(origins(later), {"a": ("a", True), "c": ("c", False), "y": ("a", False), "v": ("a", True)})
        self.assertEqual(later.targets("a"), ["a", "y", "v"])
        added = Edition(self.elder, [Add(Setting("d", "word")), Drop("a"), Split("d", "e"), Preset("e", "w")])
        self.assertEqual(origins(added)["e"], (None, False))

    def test_a_word_that_comes_back(self):
        for moves, word in [
                ([Rename("a", "x", kept=False), Rename("x", "a")], "a"),
                ([Rename("a", "x", kept=False), Rename("b", "a")], "a"),
                ([Drop("a"), Split("b", "o")], "o"), ([Drop("a"), Split("b", "a")], "a"),
                ([Add(Setting("n", "word")), Drop("n"), Split("a", "n")], "n"),
                ([Rename("a", "x", kept=False), Add(Setting("y", "word", elders=("z", "a")))], "a"),
                ([Drop("a"), Add(Setting("a", "list", elders=("o",)))], "a"),
                ([Drop("a"), Add(Setting("n", "list", elders=("o", "a")))], "o"),
                ([Drop("a"), Add(Setting("o", "list", elders=("a",)))], "o")]:
            with self.assertRaises(BadMove) as caught:
                Edition(self.elder, moves)
            self.assertEqual(caught.exception.name, word)
            self.assertEqual(Edition(self.elder, moves[:-1]).elder, self.elder)
        kept = Edition(self.elder, [Rename("b", "x"), Rename("x", "y"), Split("y", "z")])
        self.assertEqual(kept.later.setting("y").elders, ("x", "b"))

    def test_the_first_refused_move(self):
        for moves, name in [([Drop("n"), Drop("m")], "n"), ([Drop("a"), Wrap("a")], "a"),
                            ([Drop("a"), Add(Setting("o", "word", demand="some")), Drop("n")], "o"),
                            ([Drop("a"), Rename("b", "a"), Drop("n")], "a")]:
            with self.assertRaises(BadMove) as caught:
                Edition(self.elder, moves)
            self.assertEqual(caught.exception.name, name)

    def test_the_later_schema(self):
        chance = random.Random(53)
        for _ in range(200):
            elder = some_schema(chance)
            before = (list(elder), elder.rules())
            edition = some_edition(chance, elder, 6)
            self.assertEqual((list(elder), elder.rules()), before)
            self.assertEqual(edition.elder, elder)
            self.assertEqual(edition.later.rules(), elder.rules())
            self.assertEqual(reused(edition), [])
            for name, (source, is_wrapped) in origins(edition).items():
                if source is not None:
                    one, other = elder.setting(source), edition.later.setting(name)
                    self.assertEqual(is_wrapped, one.kind != other.kind)
                    self.assertEqual(one.demand, other.demand)
                else:
                    self.assertFalse(is_wrapped)

    def test_names_that_are_none(self):
        edition = Edition(self.elder, [Rename("a", "x"), Add(Setting("d", "word"))])
        for thing in NO_NAMES + ["a", "o"]:
            for function in (edition.source, edition.is_wrapped):
                with self.assertRaises(BadEdition) as caught:
                    function(thing)
                self.assertIs(caught.exception.name, thing)
        for thing in NO_NAMES + ["x", "o", "d"]:
            with self.assertRaises(BadEdition) as caught:
                edition.targets(thing)
            self.assertIs(caught.exception.name, thing)
        edition.targets("a").append("z")
        self.assertEqual(edition.targets("a"), ["x"])

    def test_equality(self):
        one = Edition(self.elder, [Rename("a", "x"), Preset("b", 4)])
        self.assertTrue(one == Edition(self.elder, [Preset("b", 9), Preset("b", 4), Rename("a", "x")]))
        split = schema_of(Setting("a", "word"), Setting("b", "word"))
        plain = Edition(split, [])
        self.assertTrue(plain == Edition.direct(split, split))
        swapped = Edition(split, [Split("a", "c"), Drop("b"), Drop("a")])
        other = Edition(split, [Split("b", "c"), Drop("a"), Drop("b")])
        self.assertEqual(swapped.later, other.later)
        self.assertFalse(swapped == other)
        wrapped = Edition(split, [Wrap("a"), Drop("b")])
        added = Edition(split, [Drop("b"), Add(Setting("c", "list")), Drop("a")])
        self.assertFalse(wrapped == added)
        self.assertFalse(plain == Edition(split, [Drop("a")]))
        self.assertFalse(Edition(split, [Preset("a", "d")]) == Edition(split, [Preset("a", "e")]))
        other = split.with_setting(Setting("a", "word", default="e"))
        self.assertFalse(Edition(split, [Preset("a", "d")]) == Edition(other, [Preset("a", "d")]))
        for thing in (None, split, "a"):
            self.assertFalse(plain == thing)


class Moved(unittest.TestCase):
    def test_led_values_and_defaults(self):
        elder = schema_of(Setting("a", "word", default="d"), Setting("b", "list"), Setting("c", "number"))
        edition = Edition(elder, [Wrap("a"), Split("a", "k"), Preset("k", ("z",)), Rename("b", "l"), Preset("c", 5)])
        self.assertEqual(list(edition.moved({"c": 0, "b": ("p q",), "a": "w"}).items()),
                         [("a", ("w",)), ("l", ("p q",)), ("c", 0), ("k", ("w",))])
        self.assertEqual(list(edition.moved({}).items()), [("a", ("d",)), ("c", 5), ("k", ("z",))])
        self.assertEqual(edition.moved({"odd": 1, "l": ("x",), "k": "y"}), edition.moved({}))
        dropped = Edition(elder, [Drop("a"), Add(Setting("n", "word", default="e")), Add(Setting("m", "word"))])
        self.assertEqual(dropped.moved({"a": "w", "n": "f", "m": "g"}), {"n": "e"})

    def test_nothing_is_changed_or_kept(self):
        edition = Edition(schema_of(Setting("a", "word")), [Preset("a", "d")])
        settings = {"a": "w", "b": 1}
        moved = edition.moved(settings)
        moved["a"] = "x"
        self.assertEqual((settings, edition.moved(settings), edition.moved({})),
                         ({"a": "w", "b": 1}, {"a": "w"}, {"a": "d"}))


class Direct(unittest.TestCase):
    def source_between(self, elder, later):
        """The origin of the only later setting, of the one elder setting `a`."""
        edition = Edition.direct(schema_of(elder), schema_of(later))
        return origins(edition)[later.name]

    def test_what_fits(self):
        word, choice = Setting("a", "word"), Setting("a", "choice", words=("p", "q"))
        plain, top = Setting("a", "list"), Setting("a", "word", demand="top")
        for one, other, wanted in [
                (word, word.changed(default="d"), ("a", False)), (choice, choice.changed(default="q"), ("a", False)),
                (choice, Setting("a", "choice", words=("p",)), (None, False)), (choice, word, (None, False)),
                (word, choice, (None, False)), (word, Setting("a", "number"), (None, False)),
                (plain, plain.changed(default=()), ("a", False)), (plain, plain.changed(join=True), (None, False)),
                (plain, plain.changed(filled=True), (None, False)), (word, plain.changed(default=()), ("a", True)),
                (choice, plain, ("a", True)), (word, plain.changed(join=True), (None, False)),
                (word, plain.changed(filled=True), (None, False)), (plain, word, (None, False)),
                (Setting("a", "number"), plain, (None, False)), (top, word, (None, False)),
                (top, plain, (None, False)), (top, plain.changed(demand="top"), ("a", True)), (top, top, ("a", False)),
                (plain.changed(join=True, filled=True, demand="some"),
                 plain.changed(join=True, filled=True, demand="some"), ("a", False))]:
            self.assertEqual(self.source_between(one, other), wanted)

    def test_names_and_elders(self):
        elder = schema_of(Setting("a", "word", elders=("e",)), Setting("b", "number"), Setting("c", "list"))
        for setting, wanted in [
                (Setting("x", "word", elders=("e",)), ("a", False)), (Setting("e", "word"), ("a", False)),
                (Setting("x", "word"), (None, False)), (Setting("b", "word", elders=("z", "a")), ("a", False)),
                (Setting("x", "list", elders=("e", "c")), ("a", True)),
                (Setting("x", "list", elders=("c", "e")), ("c", False)),
                (Setting("c", "list", elders=("a",)), ("c", False)),
                (Setting("b", "list", elders=("x", "c")), ("c", False))]:
            edition = Edition.direct(elder, schema_of(setting))
            self.assertEqual(origins(edition), {setting.name: wanted})
        both = Edition.direct(elder, schema_of(Setting("e", "word"), Setting("a", "list")))
        self.assertEqual(both.targets("a"), ["e", "a"])
        self.assertEqual((both.elder, both.later.names), (elder, ("e", "a")))

    def test_refusals_in_their_order(self):
        elder = schema_of(Setting("a", "list", default=()), Setting("b", "word", demand="some"))
        for rule, word in [("unknown", "pass"), ("doubled", "join"), ("wrong", "lack"), ("nothing", "lacks"),
                           ("empty", "lacks")]:
            with self.assertRaises(BadEdition) as caught:
                Edition.direct(elder, schema_of(Setting("n", "word", demand="top"), **{rule: word}))
            self.assertEqual(caught.exception.name, "")
        for settings, rules, name in [
                ([Setting("m", "word"), Setting("n", "word", demand="top"), Setting("k", "word", demand="some")], {},
                 "n"),
                ([Setting("b", "word", demand="top")], {}, "b"), ([Setting("b", "list", demand="no")], {}, None),
                ([Setting("a", "list"), Setting("n", "word", demand="some")], {"empty": "lacks"}, "a"),
                ([Setting("n", "word", demand="some"), Setting("a", "list")], {"empty": "lacks"}, "n"),
                ([Setting("x", "list", elders=("a",), default=("p",))], {"empty": "lacks"}, "x"),
                ([Setting("a", "list", default=())], {"empty": "lacks"}, None), ([Setting("a", "list")], {}, None)]:
            first = elder.with_rules(**rules)
            if name is None:
                self.assertEqual(Edition.direct(first, schema_of(*settings, **rules)).elder, first)
            else:
                with self.assertRaises(BadEdition) as caught:
                    Edition.direct(first, schema_of(*settings, **rules))
                self.assertEqual(caught.exception.name, name)
        filled = schema_of(Setting("a", "list", default=(), filled=True))
        with self.assertRaises(BadEdition) as caught:
            Edition.direct(filled, schema_of(Setting("a", "list", filled=True)))
        self.assertEqual(caught.exception.name, "a")
        self.assertEqual(Edition.direct(filled, filled).later, filled)


class Together(unittest.TestCase):
    def test_sources_and_wrapped(self):
        elder = schema_of(Setting("a", "word"), Setting("b", "word"))
        first = Edition(elder, [Wrap("a"), Split("a", "c"), Add(Setting("d", "word"))])
        second = Edition(first.later, [Drop("c"), Wrap("b"), Wrap("d"), Split("a", "e")])
        both = first >> second
        self.assertEqual((both.elder, both.later), (elder, second.later))
        self.assertEqual(origins(both), {"a": ("a", True), "b": ("b", True), "d": (None, False), "e": ("a", True)})

    def test_both_orders_of_brackets(self):
        chance = random.Random(54)
        for _ in range(200):
            rows = [some_edition(chance, some_schema(chance), 3)]
            for _ in range(2):
                rows.append(some_edition(chance, rows[-1].later, 3))
            one, two, three = rows
            left, right = (one >> two) >> three, one >> (two >> three)
            self.assertTrue(left == right)
            self.assertEqual(origins(left), origins(right))
            for name in three.later.names:
                middle = three.source(name)
                lower = None if middle is None else two.source(middle)
                source = None if lower is None else one.source(lower)
                self.assertEqual(left.source(name), source)
                wrapped = source is not None and any([three.is_wrapped(name), two.is_wrapped(middle),
                                                      one.is_wrapped(lower)])
                self.assertIs(left.is_wrapped(name), wrapped)

    def test_editions_that_do_not_meet(self):
        elder = schema_of(Setting("a", "word"))
        first, second = Edition(elder, [Preset("a", "d")]), Edition(elder, [Wrap("a")])
        with self.assertRaises(BadEdition) as caught:
            first >> second
        self.assertEqual(caught.exception.name, "")


class ReusedWords(unittest.TestCase):
    def test_by_definition(self):
        chance = random.Random(55)
        many = 0
        for _ in range(300):
            edition = some_direct_edition(chance, some_schema(chance))
            words = [word for word in words_of(edition.elder) if word in words_of(edition.later)
                     and edition.source(edition.later.called(word)) != edition.elder.called(word)]
            self.assertEqual(reused(edition), sorted(words))
            many += len(words) > 1
        self.assertGreater(many, 5)

    def test_examples(self):
        elder = schema_of(Setting("a", "word", elders=("c",)), Setting("b", "number"))
        for settings, words in [([Setting("a", "number")], ["a"]), ([Setting("b", "word"), Setting("c", "word")],
                                                                    ["b"]),
                                ([Setting("c", "number", elders=("a", "x"))], ["a", "c"]), ([Setting("x", "word")], []),
                                ([Setting("b", "word", elders=("a",))], ["b"])]:
            self.assertEqual(reused(Edition.direct(elder, schema_of(*settings))), words)


if __name__ == "__main__":
    unittest.main()
