import random
import unittest

from samples import BUILDER_KINDS, TABLES, some_table_row, some_text, some_values
from slipreach.builder import Builder
from slipreach.conditions import Condition
from slipreach.conducts import conduct
from slipreach.errors import BadBuilder, BadKind, BadSettings, Refused
from slipreach.rowkinds import Table
from slipreach.steps import BuilderText, written_words

OWNER = Table(["owner"])


class Builders(unittest.TestCase):
    def test_a_builder_is_a_builder_text(self):
        builder = Builder("take", OWNER, BUILDER_KINDS)
        self.assertIsInstance(builder, BuilderText)
        self.assertTrue(builder == Builder("take", OWNER, BUILDER_KINDS))
        self.assertFalse(builder == Builder("not\ntake", OWNER, BUILDER_KINDS))
        self.assertEqual((builder.text, builder.table, builder.kinds, builder.names),
                         ("take", OWNER, BUILDER_KINDS, ()))
        self.assertEqual(written_words(Builder("or owner is 'a'\ntake", OWNER, {})), ("a",))
        with self.assertRaises(BadKind):
            Builder("odd", OWNER, {"w": "odd"})
        with self.assertRaises(BadBuilder) as caught:
            Builder("not\nodd", OWNER, {})
        self.assertEqual(caught.exception.line, 1)

    def test_the_condition_has_the_value_of_the_run(self):
        chance = random.Random(131)
        refused = 0
        for _ in range(2500):
            table = chance.choice(TABLES)
            builder = Builder(some_text(chance, table), table, BUILDER_KINDS)
            values = some_values(chance)
            values["odd"] = None
            rows = [some_table_row(chance, table) for _ in range(8)]
            wanted = [builder.outcome(row, values) for row in rows]
            before = dict(values)
            if wanted[0] == "refused":
                with self.assertRaises(Refused) as caught:
                    builder(values)
                line = caught.exception.line
                self.assertEqual((list(builder.lines_run(values))[-1], builder.text.split("\n")[line].strip()),
                                 (line, "refuse"))
                refused += 1
            else:
                condition = builder(values)
                self.assertIsInstance(condition, Condition)
                self.assertEqual(condition.table, table)
                self.assertEqual([condition.value(row) for row in rows], wanted)
            self.assertEqual(values, before)
        self.assertGreater(refused, 100)

    def test_each_run_gives_a_condition_of_its_own(self):
        builder = Builder("or owner is @w\ntake", OWNER, {"w": "word"})
        one = builder({"w": "a"})
        other = builder({"w": "a"})
        one |= Condition.every(OWNER)
        self.assertIs(other.value({"owner": "b"}), False)
        self.assertTrue(builder({}).blank)
        self.assertTrue(Builder("or none\ntake", OWNER, {})({}) == Condition.none(OWNER))

    def test_what_was_tested(self):
        builder = Builder("or owner in @ids\nor owner is 'b'\ntake", OWNER, {"ids": "list"})
        condition = builder({"ids": ("a", "c d")})
        self.assertEqual(condition.tested_words(), ("a", "b", "c d"))
        self.assertTrue(condition == Condition.test(OWNER, "owner", "is", "a") | Condition.test(OWNER, "owner", "is",
                                                                                                "b")
                        | Condition.test(OWNER, "owner", "is", "c d"))
        things = ["a", "c d"]
        other = builder({"ids": things})
        things.append("e")
        self.assertTrue(condition == other)
        many = Builder("for @ids\n  or owner is item\ntake", OWNER, {"ids": "list"})({"ids": ["a"] * 3000})
        self.assertTrue(many == Condition.test(OWNER, "owner", "is", "a"))

    def test_bad_settings(self):
        builder = Builder("for @ids\n  refuse\ntake", OWNER, BUILDER_KINDS)
        there = conduct(builder, {"owner": "a"}, "ids", ["a"])
        for values, name in [({"ids": there}, "ids"), ({"w": "a b", "v": 1}, "v"), ({"n": True, "ids": ["a"]}, "n"),
                             ({"tags": ["A"]}, "tags")]:
            with self.assertRaises(BadSettings) as caught:
                builder(values)
            self.assertEqual(caught.exception.name, name)
        with self.assertRaises(Refused) as caught:
            builder({"ids": ("a",)})
        self.assertEqual(caught.exception.line, 1)


if __name__ == "__main__":
    unittest.main()
