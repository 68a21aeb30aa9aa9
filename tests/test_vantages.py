"""The rows that fates look beside: fewer than there are kinds of rows, but enough."""

import random
import unittest
from unittest import mock

from houses import house_of, some_house, some_rule
from slipreach import survey
from slipreach.beside import told_numbers, told_words
from slipreach.errors import TooManyConducts
from slipreach.kinds import Setting
from slipreach.language import Language
from slipreach.reach import reach
from slipreach.rowkinds import Table, kind_rows
from slipreach.rules import SlipRule
from slipreach.vantages import vantages

MOST = 150


def all_kinds(house, rule, shapes):
    """One row of each kind that there is."""
    is_joining = house.language.comma == "joins"
    return kind_rows(house.builder.table, told_words(house, rule), told_numbers(house, rule), pairs=is_joining)


def weights(house, rule, shapes):
    """The weight of each fate at each place, or "many"."""
    try:
        looked = survey.Survey(house, rule, shapes)
    except TooManyConducts:
        return "many"
    looked.look_all()
    return {key: looked.found[key].weight for key in looked.found}


class Vantages(unittest.TestCase):
    def test_they_are_rows(self):
        for seed in range(150):
            chance = random.Random(seed)
            house, rule = some_house(chance), some_rule(chance)
            found = reach(house.language, rule)
            rows = vantages(house, rule, found.shapes)
            self.assertGreater(len(rows), 0)
            for row in rows:
                self.assertIn(row, house.builder.table)

    def test_pairs_in_two_columns(self):
        text = "for @rows\n  if item is 'a_b'\n    not\n  or owner is item\n  or maker is item\ntake"
        house = house_of([Setting("rows", "list")], text, Table(["owner", "maker"]), 1, Language(comma="joins"))
        rows = vantages(house, SlipRule("left"), reach(house.language, SlipRule("left")).shapes)
        self.assertTrue(all(row in house.builder.table for row in rows))
        for owner, maker in [("a b", "a b"), ("a b", "b a"), ("a", "a b")]:
            self.assertIn({"owner": owner, "maker": maker}, rows)
        self.assertTrue(any(" " in row["owner"] and row["maker"] == row["owner"].split(" ")[1]
                            and row["maker"] not in "ab" for row in rows))

    def test_they_are_enough(self):
        """Beside all kinds of rows there is nothing more to be found, nor by less weight."""
        count = 0
        for seed in range(60):
            chance = random.Random(seed)
            house, rule = some_house(chance, layers=(1, 1, 2)), some_rule(chance)
            found = reach(house.language, rule)
            if found.word == "far" or len(all_kinds(house, rule, found.shapes)) > MOST:
                continue
            few = weights(house, rule, found.shapes)
            with mock.patch.object(survey, "vantages", all_kinds), \
                    mock.patch.object(survey, "word_profile", lambda sight, rule: str(sight.row)):
                self.assertEqual(few, weights(house, rule, found.shapes), seed)
            count += 1
        self.assertGreater(count, 25)


if __name__ == "__main__":
    unittest.main()
