import random
import unittest

from samples import NUMERALS, SIGNS, WORDS, read_or_none, some_entry, some_items, some_languages
from slipreach.errors import BadFilling, NotPlaced, Unreadable
from slipreach.language import Language
from slipreach.reach import reach
from slipreach.reader import read, roles, spans
from slipreach.rules import SlipRule
from slipreach.shapes import Shape, Window, filled, instance, placed
from slipreach.slips import Slip
from slipreach.tokens import tokens

RULE = SlipRule.every() | SlipRule(looks=[("a", "="), (";", "a"), ("yes", "0"), ("1", "]"), ("b", ";"), ("=", "1")])

SOME = {"none": [0], "some": [1, 2, 3], "any": [0, 1, 2]}


def some_filling(chance, language, shape):
    """A filling of a shape, with few words, so that some are equal."""
    while True:
        filling = {symbol: chance.choice(NUMERALS if symbol[0] == "n" else WORDS) for symbol in shape.symbols}
        filling.update(shape.fixed)
        if shape.has_head:
            filling["head"] = some_items(chance, language)
        if shape.has_tail:
            filling["tail"] = some_items(chance, language)
        if all(filling[one] != filling[other] for one, other in shape.unlike):
            return filling


def some_sides(chance, language, shape):
    ahead = [some_entry(chance, language) for _ in range(chance.choice(SOME[shape.ahead]))]
    if shape.joint:
        ahead[-1] = some_entry(chance, language, False)
    return ahead, [some_entry(chance, language) for _ in range(chance.choice(SOME[shape.behind]))]


def filled_by_hand(entries, filling):
    """Point 2.8, written down once more."""
    found = []
    for name, value in entries:
        if value is None:
            worth = None
        elif value[0] == "yes":
            worth = "yes"
        elif value[0] == "word":
            worth = filling[value[1]]
        elif value[0] == "number":
            worth = int(filling[value[1]])
        else:
            items = []
            for part in value[1]:
                if part[0] in ("head", "tail"):
                    assert part == (part[0], 1)
                    items.extend(filling[part[0]])
                elif part[0] == "item":
                    items.append(filling[part[1]])
                else:
                    items.append(filling[part[1]] + " " + filling[part[2]])
            worth = tuple(items)
        found.append((filling[name], worth))
    return found


def tokens_by_hand(text, filling):
    found = []
    for symbol in text:
        if symbol in SIGNS:
            found.append(symbol)
        elif symbol in ("head", "tail"):
            found.extend(" , ".join(filling[symbol]).split(" "))
        else:
            found.append(filling[symbol])
    return found


def is_instance(language, shape, file, slip, filling):
    """Point 2.9, written down once more."""
    first = read(language, file)
    if slip.kind != shape.kind or not slip.fits(file) or roles(language, file)[slip.at] != shape.role:
        return False
    if slip.token != filling.get(shape.token, shape.token):
        return False
    if any(filling[symbol] != token for symbol, token in shape.fixed.items()):
        return False
    if any(filling[one] == filling[other] for one, other in shape.unlike):
        return False
    places = spans(language, file)
    owner = [number for number, (one, behind) in enumerate(places) if one <= slip.at < behind][0]
    i = owner - shape.owner
    j = i + len(shape.before)
    if i < 0 or first[i:j] != filled_by_hand(shape.before, filling):
        return False
    if (shape.ahead == "none" and i) or (shape.ahead == "some" and not i):
        return False
    if (shape.behind == "none" and j < len(first)) or (shape.behind == "some" and j == len(first)):
        return False
    if shape.joint and file[places[i - 1][1] - 1] == ";":
        return False
    second = read_or_none(language, slip(file))
    if shape.after is None:
        return second is None
    return second == first[:i] + filled_by_hand(shape.after, filling) + first[j:]


RULES = [RULE, SlipRule.every() | SlipRule(looks=[("b", ";")]), SlipRule("swapped", looks=[("a", "=")]),
         SlipRule("number", looks=[("=", "1"), ("a", "1")])]


def near_reaches(count, seed):
    """For each of some languages its reach by the first rule that is near."""
    languages = some_languages(count, seed)
    # Names alone without `;` bring about shapes that are joint.
    languages += [language.with_options(end="may", bare=True, equals="must", doubled=("=",))
                  for language in languages[:count // 10]]
    for language in languages:
        found = [reach(language, rule) for rule in RULES]
        near = [one for one in found if one.word == "near"]
        if near:
            yield language, near[0]


class FormOfShapes(unittest.TestCase):
    def test_attributes(self):
        for language, found in near_reaches(60, 1):
            for shape in found.shapes:
                self.assertIsInstance(shape, Shape)
                self.check_parts(shape)
                self.check_symbols(shape)
                if language.comma != "joins":
                    self.assertNotIn("pair", repr(shape.before) + repr(shape.after))

    def check_parts(self, shape):
        self.assertIn(shape.kind, ("left", "doubled", "swapped", "written"))
        self.assertIs(shape.token is None, shape.kind != "written")
        self.assertIs(type(shape.before), tuple)
        self.assertIn(len(shape.before), (1, 2, 3, 4))
        self.assertIn(shape.owner, range(len(shape.before)))
        if shape.after is not None:
            self.assertIs(type(shape.after), tuple)
            self.assertLessEqual(len(shape.after), 4)
        self.assertIn(shape.ahead, SOME)
        self.assertIn(shape.behind, SOME)
        self.assertIn(shape.joint, (True, False))
        self.assertTrue(not shape.joint or shape.ahead == "some")
        self.assertIn(shape.at, range(len(shape.text)))
        self.assertIs(type(shape.fixed), dict)
        self.assertIs(type(shape.unlike), tuple)

    def check_symbols(self, shape):
        words = [symbol for symbol in shape.symbols if symbol[0] == "w"]
        numbers = [symbol for symbol in shape.symbols if symbol[0] == "n"]
        self.assertEqual(shape.symbols, tuple(sorted(words, key=lambda symbol: int(symbol[1:]))
                                              + sorted(numbers, key=lambda symbol: int(symbol[1:]))))
        self.assertEqual(len(set(shape.symbols)), len(shape.symbols))
        used = {symbol for symbol in [*shape.text, shape.token] if symbol not in [*SIGNS, None]}
        edges = ["head"] * shape.has_head + ["tail"] * shape.has_tail
        self.assertEqual(used, {*shape.symbols, *edges})
        texts = [symbol for symbol in shape.text if symbol not in SIGNS]
        self.assertEqual(len(set(texts)), len(texts))
        self.assertNotIn(shape.token, texts)
        self.assertTrue(set(shape.fixed) <= set(shape.symbols))
        self.assertTrue({symbol for pair in shape.unlike for symbol in pair} <= set(shape.symbols))
        for name, value in [*shape.before, *(shape.after or ())]:
            self.assertIn(name, shape.symbols)
            if value is not None and value[0] == "list":
                kinds = [part[0] for part in value[1]]
                self.assertNotIn("head", kinds[1:])
                self.assertNotIn("tail", kinds[:-1])


class Filled(unittest.TestCase):
    def test_windows(self):
        chance = random.Random(2)
        for language, found in near_reaches(50, 2):
            for shape in found.shapes:
                filling = some_filling(chance, language, shape)
                window = filled(shape, {**filling, "other": 1, 5: None})
                self.assertIsInstance(window, Window)
                self.assertEqual(window.tokens, tokens_by_hand(shape.text, filling))
                self.assertEqual(window.before, filled_by_hand(shape.before, filling))
                after = None if shape.after is None else filled_by_hand(shape.after, filling)
                self.assertEqual(window.after, after)
                at = len(tokens_by_hand(shape.text[:shape.at], filling))
                self.assertEqual(window.slip, Slip(shape.kind, at, filling.get(shape.token, shape.token)))
                self.assertTrue(window.slip.fits(window.tokens))

    def test_bad_fillings(self):
        chance = random.Random(3)
        wrong = {"w": [None, "A", "0", "a b", 1, ("a",), "l" * 13], "n": [None, "a", 1, "01", "", "1" * 13],
                 "h": [None, (), ["a"], "a", ("a", 1), ("a b c",)], "t": [None, (), ["b"], ("",), {}]}
        for language, found in near_reaches(12, 3):
            for shape in found.shapes:
                filling = some_filling(chance, language, shape)
                order = [*shape.symbols, *["head"] * shape.has_head, *["tail"] * shape.has_tail]
                for at, symbol in enumerate(order):
                    thing = chance.choice(wrong[symbol[0]])
                    bad = {**filling, symbol: thing}
                    for later in order[at + 1:]:
                        if chance.random() < 0.3:
                            bad[later] = None
                    self.fails(shape, bad, symbol)
                    self.fails(shape, {key: bad[key] for key in bad if key != symbol}, symbol)
                for symbol, token in shape.fixed.items():
                    self.fails(shape, {**filling, symbol: "other" if token.isalpha() else "9"}, symbol)
                for one, other in shape.unlike:
                    self.fails(shape, {**filling, one: filling[other]}, other)
                    # A wrong symbol is told before equal tokens are.
                    last = order[-1]
                    if last not in (one, other):
                        self.fails(shape, {**filling, one: filling[other], last: None}, last)

    def fails(self, shape, filling, symbol):
        with self.assertRaises(BadFilling) as caught:
            filled(shape, filling)
        self.assertEqual(caught.exception.symbol, symbol)


class Placed(unittest.TestCase):
    def test_every_shape_between_entries(self):
        chance = random.Random(4)
        joints = 0
        for language, found in near_reaches(110, 4):
            for shape in found.shapes:
                joints += shape.joint
                filling = some_filling(chance, language, shape)
                ahead, behind = some_sides(chance, language, shape)
                file, slip = placed(language, shape, filling, ahead, behind)
                window = filled(shape, filling)
                self.assertEqual(read(language, file), ahead + window.before + behind)
                self.assertTrue(found.rule.allows(file, slip))
                after = None if window.after is None else ahead + window.after + behind
                self.assertEqual(read_or_none(language, slip(file)), after)
                self.assertTrue(is_instance(language, shape, file, slip, filling))
                other = instance(language, shape, file, slip)
                self.assertTrue(is_instance(language, shape, file, slip, other))
                if shape.joint:
                    self.assertNotEqual(file[slip.at - 1 - shape.at], ";")
                    parted = [*file[:slip.at], ";", *file[slip.at:]]
                    self.assertEqual(read(language, parted), read(language, file))
                    other = Slip(slip.kind, slip.at + 1, slip.token)
                    self.assertIsNone(instance(language, shape, parted, other))
        self.assertGreater(joints, 20)

    def test_not_placed(self):
        chance = random.Random(5)
        seen = set()
        for language, found in near_reaches(40, 5):
            for shape in found.shapes:
                filling = some_filling(chance, language, shape)
                good_ahead, good_behind = some_sides(chance, language, shape)
                wrong = {"none": [("a", "b")], "some": []}
                if shape.ahead in wrong:
                    seen.add(shape.ahead)
                    self.fails("ahead", language, shape, filling, wrong[shape.ahead], good_behind)
                    self.fails("ahead", language, shape, filling, wrong[shape.ahead], wrong.get(shape.behind, []))
                if shape.behind in wrong:
                    self.fails("behind", language, shape, filling, good_ahead, wrong[shape.behind])
                if shape.joint and language.nothing:
                    seen.add("joint")
                    self.fails("ahead", language, shape, filling, [("a", "b"), ("a", None)], good_behind)
                    placed(language, shape, filling, [("a", None), ("a", "b")], good_behind)
                with self.assertRaises(BadFilling):
                    placed(language, shape, {}, wrong.get(shape.ahead, []), wrong.get(shape.behind, []))
        self.assertEqual(seen, {"none", "some", "joint"})

    def fails(self, side, *arguments):
        with self.assertRaises(NotPlaced) as caught:
            placed(*arguments)
        self.assertEqual(caught.exception.side, side)

    def test_what_is_passed_stays(self):
        language = Language()
        shape = reach(language, SlipRule("left")).shapes[0]
        filling = some_filling(random.Random(1), language, shape)
        copy, ahead, behind = dict(filling), [], []
        file, _ = placed(language, shape, filling, ahead, behind)
        file.clear()
        self.assertEqual((filling, ahead, behind), (copy, [], []))
        self.assertEqual(placed(language, shape, filling, ahead, behind)[0][0], filling[shape.before[0][0]])


class Instances(unittest.TestCase):
    def test_no_instances(self):
        language = Language(end="between")
        found = reach(language, SlipRule.every())
        file = tokens("a = [ b , c ] ; d = 1")
        for slip in [Slip("left", 99), Slip("swapped", 10), Slip("written", 0, "a"), Slip("doubled", 11)]:
            for shape in found.shapes:
                self.assertIsNone(instance(language, shape, file, slip))
        for shape in found.shapes:
            for slip in [Slip("left", 7), Slip("left", 0), Slip("written", 8, "x")]:
                filling = instance(language, shape, file, slip)
                if filling is not None:
                    self.assertTrue(is_instance(language, shape, file, slip, filling))
                if slip.kind != shape.kind:
                    self.assertIsNone(filling)

    def test_unreadable_files(self):
        language = Language()
        for shape in reach(language, SlipRule("left")).shapes[:5]:
            with self.assertRaises(Unreadable) as caught:
                instance(language, shape, ["a", "b"], Slip("left", 99))
            self.assertEqual((caught.exception.at, caught.exception.awaited), (1, ("=",)))

    def test_repeated_items(self):
        language = Language(doubled=(",",))
        found = reach(language, SlipRule("left"))
        file = tokens("a = [ b , b , b , c , b ] ;")
        for at in (3, 5, 7, 9):
            index, filling = found.find(file, Slip("left", at))
            shape = found.shapes[index]
            if at > 3:
                self.assertEqual(filled(shape, filling).after, read(language, Slip("left", at)(file)))


if __name__ == "__main__":
    unittest.main()
