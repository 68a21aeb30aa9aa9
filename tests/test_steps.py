import itertools
import random
import re
import unittest

from samples import BUILDER_KINDS, TABLES, Interpreter, some_table_row, some_text, some_values
from slipreach.conducts import conduct
from slipreach.errors import BadBuilder, BadKind, BadSettings
from slipreach.rowkinds import Table
from slipreach.steps import BuilderText, written_numbers, written_words

BOTH = Table(["owner"], ["size"])
WORD = "[a-z]{1,12}"
QUOTED = f"'{WORD}(?:_{WORD})?'"
NUMBER = "(?:0|[1-9][0-9]{0,8})"


def settings_of(kinds, *wanted):
    names = [re.escape(name) for name in kinds if kinds[name] in wanted]
    return "@(?:" + "|".join(names or ["NONE"]) + ")"


def line_pattern(table, kinds, is_inside):
    """All lines without their blanks ahead, as a regular expression."""
    words, numbers = "(?:" + "|".join(table.words or ["NONE"]) + ")", "(?:" + "|".join(table.numbers or ["NONE"]) + ")"
    setting = {kind: "NONE" if is_inside else settings_of(kinds, kind) for kind in ("word", "number", "list")}
    some = "NONE" if is_inside else settings_of(kinds, "word", "number", "list")
    item = "item" if is_inside else "NONE"
    test = (f"(?:every|none|{words} is (?:{QUOTED}|{setting['word']}|{item})|{words} in {setting['list']}"
            f"|{numbers} (?:is|below|least) (?:{NUMBER}|{setting['number']}))")
    question = (f"(?:no )?(?:given {some}|some {setting['list']}|{setting['word']} is {QUOTED}"
                f"|{setting['number']} (?:is|below|least) {NUMBER}|{item} is {QUOTED}|blank)")
    inside = "|break|skip" if is_inside else ""
    return (f"(?:guard )?(?:and|or) (?:not )?{test}|not|clear|refuse|if {question}|else|for {setting['list']}|take"
            + inside)


def first_wrong_line(text, table, kinds):
    """The line that 6.7 tells, found by regular expressions, or None."""
    blocks, last, quotes, numbers, loops = [], "", set(), set(), 0
    lines = text.split("\n")
    for at, line in enumerate(lines):
        blanks = len(re.match(" *", line).group())
        rest, depth = line[blanks:], blanks // 2
        is_opened = last in ("if", "else", "for")
        if at == 30 or blanks % 2 or depth > 4 or last == "take" or depth > len(blocks):
            return at
        if is_opened and depth != len(blocks):
            return at
        closed, blocks = blocks[depth:], blocks[:depth]
        if not re.fullmatch(line_pattern(table, kinds, "for" in blocks), rest):
            return at
        last = rest.split(" ")[0]
        if last == "take" and depth:
            return at
        if last == "else" and closed[:1] != ["if"]:
            return at
        loops += last == "for"
        quotes |= set(re.findall("'[a-z_]+'", rest))
        numbers |= set(re.findall("(?<= )[0-9]+", rest))
        if loops > 2 or len(quotes) > 4 or len(numbers) > 3:
            return at
        if last in ("if", "else", "for"):
            blocks.append(last)
    return None if last == "take" else len(lines)


class Texts(unittest.TestCase):
    def check(self, text, wanted, table=BOTH, kinds=BUILDER_KINDS):
        self.assertEqual(first_wrong_line(text, table, kinds), wanted, text)
        if wanted is None:
            self.assertEqual(BuilderText(text, table, kinds).text, text)
        else:
            with self.assertRaises(BadBuilder, msg=text) as caught:
                BuilderText(text, table, kinds)
            self.assertEqual(caught.exception.line, wanted, text)

    def test_every_form_of_a_line(self):
        for line in ["and every", "or none", "and not every", "or not none", "guard and every", "guard or not none",
                     "not", "clear", "refuse", "and owner is 'a'", "and owner is 'a_b'", "or owner is @w",
                     "or owner in @ids", "and size is 0", "and size below 999999999", "or size least @n",
                     "if blank\n  not", "if no blank\n  not", "if given @w\n  not", "if given @n\n  not",
                     "if no given @ids\n  not", "if some @tags\n  not", "if @w is 'a_b'\n  not", "if @n is 4\n  not",
                     "if no @n below 4\n  not", "if @n least 0\n  not", "if blank\n  not\nelse\n  clear",
                     "for @ids\n  break", "for @ids\n  skip", "for @ids\n  and owner is item",
                     "for @ids\n  refuse\n  not",
                     "for @ids\n  if item is 'a'\n    break\n  else\n    skip\n    not",
                     "for @ids\n  if no item is 'a_b'\n    not",
                     "for @ids\n  if blank\n    or owner is 'a'\n  and size is 3", "refuse\nrefuse"]:
            self.check(line + "\ntake", None)
        self.check("take", None)

    def test_wrong_lines(self):
        for line in ["", " ", "odd", "and", "and not", "guard", "guard not", "guard clear", "not every",
                     "and every none",
                     "and owner", "and owner is", "and owner is a", "and owner is 'a", "and owner is a'",
                     "and owner is ''",
                     "and owner is 'A'", "and owner is 'a_'", "and owner is '_a'", "and owner is 'a_b_c'",
                     "and owner is ' '",
                     "and owner is 'a b'", "and owner is 'a1'", "and owner is 'abcdefghijklm'", "and owner is 3",
                     "and owner is @n", "and owner is @ids", "and owner is @odd", "and owner is @", "and owner is item",
                     "and owner in @w", "and owner in @n", "and owner in ids", "and owner in 'a'", "and owner below 3",
                     "and owner least 'a'", "and size is 'a'", "and size is @w", "and size is @ids", "and size in @ids",
                     "and size is 00", "and size is 01", "and size is 1000000000", "and size is -1", "and size is item",
                     "and size above 3", "and maker is 'a'", "and is is 'a'", "and not not every", "or and every",
                     "guard guard and every", "and guard every", "break", "skip", "else", "take 3", "not not",
                     "clear all",
                     "refuse 'a'", "and  every", " and every", "  and every", "and every ", "\tand every", "and\tevery",
                     "and owner  is 'a'", "and every\r", "AND every", "And every", "and Owner is 'a'", "@w is 'a'",
                     "and ids is 'a'", "and owner is 'a' 'b'", "and owner is\n'a'", "# not"]:
            self.check(line + "\ntake", 0)
            self.check("not\n" + line + "\ntake", 1)

    def test_wrong_questions_and_blocks(self):
        for text, wanted in [
                ("if", 0), ("if no", 0), ("if no no blank\n  not", 0), ("if blank blank\n  not", 0),
                ("if given w\n  not", 0),
                ("if given @odd\n  not", 0), ("if some @w\n  not", 0), ("if some @n\n  not", 0),
                ("if @w is 3\n  not", 0),
                ("if @w below 'a'\n  not", 0), ("if @n is 'a'\n  not", 0), ("if @ids is 'a'\n  not", 0),
                ("if every\n  not", 0),
                ("if item is 'a'\n  not", 0), ("if owner is 'a'\n  not", 0), ("if 'a' is @w\n  not", 0),
                ("if @w is @v\n  not", 0),
                ("if @w below 3\n  not", 0), ("if @ids least 3\n  not", 0), ("if @ids is 3\n  not", 0),
                ("if @w in @ids\n  not", 0), ("if size is 3\n  not", 0), ("for ids\n  not", 0), ("for @w\n  not", 0),
                ("for @ids @ids\n  not", 0), ("for\n  not", 0), ("for @odd\n  not", 0), ("if blank\nnot", 1),
                ("if blank", 1),
                ("if blank\n    not", 1), ("if blank\n   not", 1), ("if blank\n not", 1), ("if blank\n  take", 1),
                ("if blank\n  not\n    not", 2), ("not\n  not", 1), ("else\n  not", 0), ("if blank\nelse\n  not", 1),
                ("if blank\n  not\nelse", 3), ("if blank\n  not\nelse\nnot", 3),
                ("if blank\n  not\nelse\n  not\nelse\n  not", 4),
                ("if blank\n  not\nnot\nelse\n  not", 3), ("for @ids\n  not\nelse\n  not", 2),
                ("if blank\n  not\n  else\n    not", 2),
                ("if blank\n  if blank\n    not\nelse\n  not", None),
                ("if blank\n  if blank\n    not\n  else\n    not\nelse\n  not", None),
                ("for @ids\n  for @tags\n    not", 1), ("for @ids\n  if given @w\n    not", 1),
                ("for @ids\n  and owner is @w", 1),
                ("for @ids\n  if blank\n    and owner in @tags", 2), ("for @ids\n  and size is @n", 1),
                ("for @ids\n  not\nbreak", 2),
                ("for @ids\n  if blank\n    break\n  else\n    skip", None), ("for @ids\n  not\nand owner is item", 2),
                ("for @ids\n  if some @ids\n    not", 1), ("if blank\n  break", 1),
                ("for @ids\n  if no @w is 'a'\n    not", 1)]:
            self.check(text + "\ntake", wanted)

    def test_the_end(self):
        for text, wanted in [("", 0), ("\n", 0), ("take\n", 1), ("take\ntake", 1), ("take\nnot", 1), ("not", 1),
                             ("take\n ", 1),
                             ("not\nnot", 2), ("if blank\n  not", 2), ("for @ids", 1), ("if blank\n  take", 1),
                             ("\ntake", 0),
                             (" take", 0), ("take ", 0), ("if blank\n  not\n  take", 2), ("not\n\ntake", 1)]:
            self.check(text, wanted)

    def test_bounds(self):
        for count, wanted in [(29, None), (30, 30), (31, 30)]:
            self.check("\n".join(["not"] * count + ["take"]), wanted)
        self.check("\n".join(["not"] * 30), 30)
        self.check("\n".join(["not"] * 31), 30)
        loop = "for @ids\n  not\n"
        self.check(loop * 2 + "take", None)
        self.check(loop * 3 + "take", 4)
        self.check(loop + "if blank\n  for @tags\n    not\nelse\n  for @ids\n    not\ntake", 6)
        rows = [f"or owner is '{word}'" for word in ("a", "b", "a_b", "b_a", "a", "c")]
        self.check("\n".join(rows[:5] + ["take"]), None)
        self.check("\n".join(rows + ["take"]), 5)
        self.check("\n".join(rows[:4] + ["if @w is 'd'", "  not", "take"]), 4)
        self.check("\n".join(rows[:4] + ["for @ids", "  if item is 'd'", "    not", "take"]), 5)
        rows = [f"or size {sign} {number}" for sign, number in [("is", 0), ("below", 3), ("least", 3), ("is", 7),
                                                                ("is", 8)]]
        self.check("\n".join(rows[:4] + ["if @n is 7", "  not", "take"]), None)
        self.check("\n".join(rows + ["take"]), 4)
        self.check("\n".join(rows[:4] + ["if @n is 9", "  not", "take"]), 4)
        deep = ["  " * depth + "if blank" for depth in range(5)]
        self.check("\n".join(deep[:4] + ["  " * 4 + "not", "take"]), None)
        self.check("\n".join(deep + ["  " * 5 + "not", "take"]), 5)
        self.check("\n".join(deep), 5)
        self.check("\n".join(["for @ids"] + ["  " + row for row in deep[:4]] + ["  " * 5 + "not", "take"]), 5)

    def test_random_texts_and_changed_ones(self):
        chance = random.Random(91)
        wrong = 0
        pieces = ["  ", " ", "not", "and", "item", "'c'", "'d'", "@w", "@ids", "else", "for @ids", "if blank", "no ",
                  "take",
                  "\n", "\n  ", "break", "guard ", "5", "9", "owner", "is"]
        for _ in range(1500):
            table = chance.choice(TABLES)
            text = some_text(chance, table)
            self.check(text, None, table)
            lines = text.split("\n")
            for _ in range(3):
                if chance.random() < 0.5:
                    at = chance.randrange(len(text) + 1)
                    changed = text[:at] + chance.choice(pieces) + text[at + chance.randint(0, 4):]
                else:
                    one, other = chance.randrange(len(lines)), chance.randrange(len(lines))
                    changed = "\n".join(lines[:one] + [lines[other]] + lines[one + chance.randint(0, 1):])
                line = first_wrong_line(changed, table, BUILDER_KINDS)
                self.check(changed, line, table)
                wrong += line is not None
        self.assertGreater(wrong, 2000)

    def test_texts_that_are_no_strings(self):
        for text in (None, 3, b"take", ["take"], ("take",)):
            with self.assertRaises(BadBuilder) as caught:
                BuilderText(text, BOTH, {})
            self.assertEqual(caught.exception.line, -1)

    def test_kinds(self):
        for kinds, name in [({"w": "odd"}, "w"), ({"w": None}, "w"), ({"W": "word"}, "W"), ({"": "list"}, ""),
                            ({"z": "odd", "b": 3, "c": "word"}, "b"), ({"a b": "list"}, "a b"), ({"w": ["word"]}, "w"),
                            ({"w": "choice"}, "w"), ({"abcdefghijklm": "word"}, "abcdefghijklm")]:
            for text in ("take", "odd", None):
                with self.assertRaises(BadKind) as caught:
                    BuilderText(text, BOTH, kinds)
                self.assertEqual(caught.exception.name, name)

    def test_attributes_and_equality(self):
        text = "or owner in @tags\nif given @n\n  for @ids\n    not\nif @w is 'a'\n  or size is @n\ntake"
        kinds = dict(BUILDER_KINDS)
        builder = BuilderText(text, BOTH, kinds)
        self.assertEqual((builder.text, builder.table, builder.kinds), (text, BOTH, BUILDER_KINDS))
        self.assertEqual(builder.names, ("ids", "n", "tags", "w"))
        kinds["w"] = "odd"
        self.assertEqual(builder.kinds, BUILDER_KINDS)
        self.assertEqual(BuilderText("take", BOTH, {}).names, ())
        self.assertEqual(BuilderText("if some @ids\n  not\ntake", BOTH, BUILDER_KINDS).names, ("ids",))
        rows = [BuilderText("take", BOTH, {}), BuilderText("not\ntake", BOTH, {}),
                BuilderText("take", Table(["owner"]), {}),
                BuilderText("take", BOTH, {"w": "word"}), BuilderText("take", BOTH, {"w": "list"})]
        for (one, first), (other, second) in itertools.product(enumerate(rows), repeat=2):
            self.assertIs(first == second, one == other)
        self.assertTrue(rows[3] == BuilderText("take", Table(["owner"], ["size"]), {"w": "word"}))
        for thing in (None, "take"):
            self.assertFalse(rows[0] == thing)

    def test_what_is_written(self):
        text = ("or owner is 'b_a'\nor owner is 'b'\nif @n is 9\n  and size below 2\n"
                "if @w is 'a'\n  or owner is 'b'\ntake")
        builder = BuilderText(text, BOTH, BUILDER_KINDS)
        self.assertEqual((written_words(builder), written_numbers(builder)), (("a", "b", "b a"), (0, 2, 9)))
        builder = BuilderText("for @ids\n  if item is 'c_a'\n    not\n  and size is 0\ntake", BOTH, BUILDER_KINDS)
        self.assertEqual((written_words(builder), written_numbers(builder)), (("c a",), (0,)))
        builder = BuilderText("take", BOTH, {})
        self.assertEqual((written_words(builder), written_numbers(builder)), ((), (0,)))


class Runs(unittest.TestCase):
    def run_of(self, text, row=None, values=None, table=BOTH):
        row = {"owner": "a", "size": 4} if row is None else row
        return BuilderText(text, table, BUILDER_KINDS).outcome(row, {} if values is None else values)

    def test_each_line(self):
        for lines, wanted in [
                ("", None), ("and every", True), ("or none", False), ("and every\nand none", False),
                ("or none\nor every", True),
                ("or none\nand every", False), ("and not every", False), ("and every\nnot", False), ("not", None),
                ("and every\nclear", None), ("and every\nclear\nor none", False), ("refuse", "refused"),
                ("and every\nrefuse\nclear", "refused"), ("and owner is 'a'", True), ("and owner is 'b'", False),
                ("and size below 4", False), ("and size below 5", True), ("and size least 4", True),
                ("and size is 4", True),
                ("and size least 5", False), ("or not size is 4", False)]:
            self.assertIs(self.run_of(lines + "\ntake" if lines else "take"), wanted) if wanted != "refused" else \
                self.assertEqual(self.run_of(lines + "\ntake"), wanted)

    def test_lacking_settings_and_guard(self):
        for line in ("and owner is @w", "or not owner in @ids", "and size below @n", "or size is @n"):
            self.assertIsNone(self.run_of(line + "\ntake"))
            self.assertIs(self.run_of("or every\n" + line + "\ntake"), True)
            self.assertIs(self.run_of("guard " + line + "\ntake"), False)
        self.assertIs(self.run_of("or every\nguard and owner is @w\ntake"), False)
        self.assertIs(self.run_of("or every\nguard or not owner is @w\ntake"), True)
        self.assertIs(self.run_of("guard and owner is @w\ntake", values={"w": "a"}), True)
        self.assertIs(self.run_of("guard and not owner in @ids\ntake", values={"ids": []}), True)
        self.assertIs(self.run_of("and owner in @ids\ntake", values={"ids": []}), False)

    def test_questions(self):
        def answer(question, **values):
            return self.run_of(f"if {question}\n  or every\nelse\n  or none\ntake", values=values)
        for question, values, wanted in [
                ("given @w", {}, False), ("given @w", {"w": "a"}, True), ("given @ids", {"ids": []}, True),
                ("some @ids", {"ids": []}, False), ("some @ids", {}, False), ("some @ids", {"ids": ("a",)}, True),
                ("@w is 'a'", {"w": "a"}, True), ("@w is 'a'", {"w": "b"}, False), ("@w is 'a'", {}, False),
                ("@n is 3", {"n": 3}, True), ("@n below 3", {"n": 3}, False), ("@n below 3", {"n": 2}, True),
                ("@n least 3", {"n": 3}, True), ("@n least 3", {"n": 2}, False), ("@n below 3", {}, False),
                ("blank", {}, True)]:
            self.assertIs(answer(question, **values), wanted)
            self.assertIs(answer("no " + question, **values), not wanted)
        self.assertIs(self.run_of("or none\nif blank\n  or every\ntake"), False)
        self.assertIs(self.run_of("or every\nclear\nif blank\n  or every\ntake"), True)

    def test_loops(self):
        text = "for @ids\n  if item is 'all'\n    break\n  or owner is item\ntake"
        for items, wanted in [(["a", "b"], True), (["a"], False), (["all", "b"], None), ([], None),
                              (["b", "all", "c"], True),
                              (["a", "all", "b"], False), (("b",), True)]:
            self.assertIs(self.run_of(text, {"owner": "b"}, {"ids": items}, Table(["owner"])), wanted)
        self.assertIsNone(self.run_of(text, {"owner": "b"}, {}, Table(["owner"])))
        skip = "for @ids\n  if item is 'b'\n    if blank\n      skip\n    refuse\n  or owner is item\nnot\ntake"
        for items, wanted in [(["b"], None), (["b", "a"], False), (["b", "a", "b"], "refused"), (["c", "a"], False)]:
            self.assertEqual(self.run_of(skip, values={"ids": items}), wanted)
        pair = "for @ids\n  if item is 'a_b'\n    or every\n  or owner is item\ntake"
        self.assertIs(self.run_of(pair, {"owner": "a b", "size": 0}, {"ids": ["b a"]}), False)
        self.assertIs(self.run_of(pair, {"owner": "b a", "size": 0}, {"ids": ["b a"]}), True)
        self.assertIs(self.run_of(pair, {"owner": "c", "size": 0}, {"ids": ["a b"]}), True)

    def test_against_another_reading_of_the_rules(self):
        chance = random.Random(92)
        results = []
        for _ in range(3000):
            table = chance.choice(TABLES)
            text, row, values = some_text(chance, table), some_table_row(chance, table), some_values(chance)
            builder = BuilderText(text, table, BUILDER_KINDS)
            other = Interpreter(text, row, values)
            wanted = other.outcome()
            values["odd"] = ["no value"]
            before = dict(values)
            found = builder.outcome(row, values)
            results.append(found)
            self.assertEqual((found, found is wanted or found == "refused"), (wanted, True), text)
            self.assertEqual(list(builder.lines_run(values)), other.ran, text)
            self.assertEqual(values, before)
            second = some_table_row(chance, table)
            self.assertEqual(builder.outcome(second, values) is None, found is None)
        for result in (None, True, False, "refused"):
            self.assertGreater(results.count(result), 150)

    def test_conducts_in_the_place_of_lists(self):
        chance = random.Random(93)
        for _ in range(1000):
            table = chance.choice(TABLES)
            row, values = some_table_row(chance, table), some_values(chance)
            builder = BuilderText(some_text(chance, table), table, BUILDER_KINDS)
            wanted = builder.outcome(row, values)
            for name in ("ids", "tags"):
                if name in values:
                    values[name] = conduct(builder, row, name, values[name])
                    self.assertEqual(builder.outcome(row, values), wanted)

    def test_lines_run(self):
        text = ("if given @w\n  not\nelse\n  clear\nfor @ids\n  if item is 'a'\n    skip\n  if item is 'b'\n    break\n"
                "  not\nif blank\n  refuse\ntake")
        builder = BuilderText(text, BOTH, BUILDER_KINDS)
        self.assertEqual(list(builder.lines_run({})), [0, 3, 4, 10, 11])
        self.assertEqual(list(builder.lines_run({"w": "x", "ids": ["a", "c", "b", "c"]})),
                         [0, 1, 4, 5, 6, 5, 7, 9, 5, 7, 8, 10, 11])
        lines = builder.lines_run({"w": 3})
        with self.assertRaises(BadSettings) as caught:
            list(lines)
        self.assertEqual(caught.exception.name, "w")
        there = conduct(builder, {"owner": "a", "size": 0}, "ids", ["a"])
        with self.assertRaises(BadSettings) as caught:
            list(builder.lines_run({"ids": there, "tags": []}))
        self.assertEqual(caught.exception.name, "ids")

    def test_bad_settings(self):
        builder = BuilderText("take", BOTH, BUILDER_KINDS)
        row = {"owner": "a", "size": 0}
        there = conduct(builder, row, "ids", ["a"])
        for values, name in [
                ({"w": "a b"}, "w"), ({"w": 3}, "w"), ({"w": None}, "w"), ({"w": ["a"]}, "w"), ({"w": ""}, "w"),
                ({"n": "3"}, "n"),
                ({"n": True}, "n"), ({"n": -1}, "n"), ({"n": 10 ** 12}, "n"), ({"n": None}, "n"), ({"ids": "a"}, "ids"),
                ({"ids": None}, "ids"), ({"ids": ["a", 3]}, "ids"), ({"ids": ["a b c"]}, "ids"),
                ({"ids": {"a": 1}}, "ids"),
                ({"w": there}, "w"), ({"n": there}, "n"), ({"w": 1, "ids": 2, "odd": 3}, "ids"), ({"n": 1.0}, "n"),
                ({"v": 1, "tags": 3, "w": 4}, "tags")]:
            with self.assertRaises(BadSettings) as caught:
                builder.outcome(row, values)
            self.assertEqual(caught.exception.name, name)
            with self.assertRaises(BadSettings) as caught:
                list(builder.lines_run(values))
            self.assertEqual(caught.exception.name, name)
        for values in [{"n": 10 ** 12 - 1}, {"ids": ["a b"]}, {"ids": ()}, {"ids": there},
                       {"odd": None, "owner": 3, "Z": []}]:
            self.assertIsNone(builder.outcome(row, values))


if __name__ == "__main__":
    unittest.main()
