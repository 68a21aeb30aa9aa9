import random
import unittest

from samples import NUMERALS, RULE_WORDS, SIGNS, WORDS, all_files, all_languages, files_of, read_or_none
from samples import some_file, some_languages
from slipreach.errors import Unreadable
from slipreach.language import Language
from slipreach.reach import Reach, reach
from slipreach.reader import read
from slipreach.rules import SlipRule
from slipreach.shapes import instance
from slipreach.slips import Slip, trimmed
from slipreach.tokens import sort_of, tokens
from test_shapes import is_instance

UNLIKE = "abcdefgh"


def changed(language, file, slip):
    """How many entries a slip changes; none if the slipped file is not readable."""
    second = read_or_none(language, slip(file))
    if second is None:
        return 0
    return max(len(rows) for rows in trimmed(read(language, file), second))


def unlike_files(language, most):
    """Every readable file of at most so many tokens, with unlike words and numerals."""
    return files_of(language, most, lambda sort, at: [{"word": UNLIKE[at], "number": str(at)}.get(sort, sort)])


def slips_with_looks(rule, file):
    """Files and allowed slips there: for looks, their first token stands at the place."""
    for slip in rule.slips(file, words=["x"], numbers=["99"]):
        yield file, slip
    for old, new in rule.looks:
        for at, token in enumerate(file):
            if sort_of(token) == sort_of(old):
                yield [*file[:at], old, *file[at + 1:]], Slip("written", at, new)


def some_rule(chance):
    kinds = [word for word in RULE_WORDS if chance.random() < 0.5]
    looks = [tuple(chance.sample(WORDS + NUMERALS + SIGNS, 2)) for _ in range(chance.choice([0, 0, 1, 3]))]
    return SlipRule(*kinds, looks=looks)


class Farness(unittest.TestCase):
    def check(self, language, rule, most):
        """A far file shows it, no shorter one does; for a near rule no file of so many tokens."""
        found = reach(language, rule)
        self.assertIsInstance(found, Reach)
        self.assertEqual((found.language, found.rule), (language, rule))
        if found.word == "far":
            self.assertEqual(found.shapes, ())
            self.assertIs(type(found.file), list)
            self.assertTrue(rule.allows(found.file, found.slip))
            self.assertGreater(changed(language, found.file, found.slip), 2)
            most = len(found.file) - 1
        else:
            self.assertEqual((found.word, found.file, found.slip), ("near", None, None))
            self.assertIs(type(found.shapes), tuple)
        for file in unlike_files(language, most):
            for other, slip in slips_with_looks(rule, file):
                self.assertLessEqual(changed(language, other, slip), 2)
        return found.word

    def test_each_word_of_a_rule(self):
        words = set()
        for language in some_languages(30, 1):
            for word in RULE_WORDS:
                words.add(self.check(language, SlipRule(word), 5))
        self.assertEqual(words, {"near", "far"})

    def test_languages_with_free_ends(self):
        words = set()
        for language in some_languages(14, 2):
            free = language.with_options(end="may", equals="may", bare=True)
            for word in RULE_WORDS:
                words.add(self.check(free, SlipRule(word), 5))
            words.add(self.check(free, SlipRule(looks=[("a", ";"), ("=", "b")]), 5))
        self.assertEqual(words, {"near", "far"})

    def test_looks(self):
        chance = random.Random(3)
        for language in some_languages(40, 3):
            language = language.with_options(end="may")
            look = tuple(chance.sample(["a", "b", "yes", "0", "1", *SIGNS], 2))
            self.check(language, SlipRule(looks=[look]), 5)

    def test_examples(self):
        free = Language(equals="may", end="may", bare=True)
        found = reach(free, SlipRule("left"))
        self.assertEqual((found.word, len(found.file)), ("far", 5))
        self.assertEqual(reach(free.with_options(equals="must"), SlipRule.every()).word, "near")
        self.assertEqual(reach(free.with_options(end="between"), SlipRule.every()).word, "near")
        self.assertEqual(reach(free.with_options(bare=False), SlipRule("left")).word, "near")
        self.assertEqual(reach(free, SlipRule()).shapes, ())
        self.assertEqual(reach(free, SlipRule()).word, "near")

    def test_every_language(self):
        rule = SlipRule.every()
        for language in all_languages():
            found = reach(language, rule)
            is_far = language.equals == "may" and language.end == "may" and language.bare
            self.assertEqual(found.word, "far" if is_far else "near")


class Shapes(unittest.TestCase):
    def check_file(self, found, file):
        """Each allowed slip is an instance of a shape, and the first one is told."""
        language = found.language
        for slip in found.rule.slips(file, words=WORDS, numbers=NUMERALS):
            told = found.find(file, slip)
            self.assertIsNotNone(told, (vars(language), file, vars(slip)))
            index, filling = told
            self.assertTrue(is_instance(language, found.shapes[index], file, slip, filling))
            self.assertLessEqual(changed(language, file, slip), 2)

    def test_some_files(self):
        chance = random.Random(7)
        for language in some_languages(220, 7):
            found = reach(language, some_rule(chance))
            if found.word == "near":
                for _ in range(8):
                    self.check_file(found, some_file(chance, language, chance.choice([1, 3, 6, 10, 15])))

    def test_all_short_files(self):
        for language in some_languages(30, 8):
            found = reach(language, SlipRule.every() | SlipRule(looks=[("a", ";"), (",", "a"), ("=", "1")]))
            if found.word == "near":
                for file in all_files(language, 5, ["a"], ["1"]):
                    self.check_file(found, file)

    def test_first_shape_is_told(self):
        chance = random.Random(9)
        for language in some_languages(25, 9):
            found = reach(language, SlipRule.every())
            if found.word == "far":
                continue
            file = some_file(chance, language, 8)
            for slip in found.rule.slips(file, words=WORDS, numbers=NUMERALS):
                index, _ = found.find(file, slip)
                for shape in found.shapes[:index]:
                    self.assertIsNone(instance(language, shape, file, slip))
                self.assertIsNotNone(instance(language, found.shapes[index], file, slip))

    def test_slips_that_are_not_found(self):
        language = Language()
        found = reach(language, SlipRule("left", looks=[("a", "b")]))
        file = tokens("a = b ;")
        for slip in [Slip("doubled", 0), Slip("left", 4), Slip("written", 0, "c"), Slip("swapped", 0),
                     Slip("written", 2, "a")]:
            self.assertIsNone(found.find(file, slip))
        self.assertIsNotNone(found.find(file, Slip("left", 3)))
        self.assertIsNotNone(found.find(tuple(file), Slip("written", 0, "b")))
        free = reach(Language(equals="may", end="may", bare=True), SlipRule("left"))
        self.assertIsNone(free.find(["a"], Slip("left", 0)))

    def test_an_instance_that_the_rule_does_not_allow(self):
        language = Language()
        found = reach(language, SlipRule(looks=[("a", "=")]))
        file, slip = tokens("n = [ a , x , a ] ;"), Slip("written", 5, "=")
        fillings = [instance(language, shape, file, slip) for shape in found.shapes]
        self.assertTrue(any(filling is not None for filling in fillings))
        self.assertIsNone(found.find(file, slip))

    def test_unreadable_files(self):
        found = reach(Language(), SlipRule("left"))
        for slip in (Slip("left", 0), Slip("doubled", 0), Slip("left", 9)):
            with self.assertRaises(Unreadable) as caught:
                found.find(["a", "="], slip)
            self.assertEqual((caught.exception.at, caught.exception.awaited), (2, ("word", "number", "[")))


if __name__ == "__main__":
    unittest.main()
