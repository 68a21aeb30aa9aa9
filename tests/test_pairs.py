import itertools
import unittest

from samples import all_languages, some_languages
from slipreach.language import STATES, Language
from slipreach.pairs import common_ends

SORTS = ["word", "number", "=", ";", ",", "[", "]"]


def ways(language, pair, end):
    for sort in end:
        pair = tuple(language.step(state, sort) for state in pair)
        if None in pair:
            return False
    return language.closes(pair[0]) and language.closes(pair[1])


def least_lengths(language):
    """The fewest sorts for each pair of states, by going from each pair forwards."""
    found = {}
    for pair in itertools.product(STATES, STATES):
        seen, rows, length = {pair}, [pair], 0
        while rows:
            if any(language.closes(one) and language.closes(other) for one, other in rows):
                found[pair] = length
                break
            steps = {(language.step(one, sort), language.step(other, sort)) for one, other in rows for sort in SORTS}
            rows = [step for step in steps if None not in step and step not in seen]
            seen.update(rows)
            length += 1
    return found


class CommonEnds(unittest.TestCase):
    def test_keys_and_lengths(self):
        for language in some_languages(250, 6):
            ends = common_ends(language)
            self.assertEqual({pair: len(end) for pair, end in ends.items()}, least_lengths(language))
            for end in ends.values():
                self.assertIs(type(end), tuple)

    def test_ends_lead_to_a_close(self):
        for language in all_languages():
            for pair, end in common_ends(language).items():
                self.assertTrue(ways(language, pair, end))

    def test_examples(self):
        ends = common_ends(Language())
        self.assertEqual(ends["start", "ended"], ())
        self.assertEqual(ends["done", "done"], (";",))
        self.assertNotIn(("done", "ended"), ends)
        self.assertNotIn(("name", "done"), ends)
        self.assertEqual(len(ends["name", "name"]), 3)
        self.assertNotIn(("name", "done"), common_ends(Language(equals="may", end="may")))
        self.assertEqual(common_ends(Language(equals="may", end="may", bare=True))["name", "done"], ())

    def test_what_is_told_is_new(self):
        language = Language()
        common_ends(language).clear()
        self.assertEqual(common_ends(language), common_ends(Language()))


if __name__ == "__main__":
    unittest.main()
