import unittest

from slipreach.errors import BadSchema, DoubledName, NoSetting, WrongKind
from slipreach.kinds import Setting
from slipreach.schema import Schema, met

MODE = Setting("mode", "choice", words=("x", "y"), elders=("old",))
NAME = Setting("name", "word")
SIZE = Setting("size", "number", elders=("big", "wide"))
ROWS = Setting("rows", "list", join=True)
ALL = [MODE, NAME, SIZE, ROWS]

RULES = {"unknown": ["refuse", "pass"], "doubled": ["refuse", "first", "last", "join"], "wrong": ["refuse", "lack"],
         "nothing": ["clears", "lacks"], "empty": ["given", "lacks"]}

NO_NAMES = ["old", "big", "other", "", None, 1, True, ("mode",), ["mode"], {}]


class Made(unittest.TestCase):
    def fails(self, what, settings, **more):
        with self.assertRaises(BadSchema) as caught:
            Schema(settings, **more)
        self.assertEqual(caught.exception.what, what)

    def test_attributes(self):
        schema = Schema(ALL)
        self.assertEqual(schema.names, ("mode", "name", "size", "rows"))
        self.assertEqual([schema.unknown, schema.doubled, schema.wrong, schema.nothing, schema.empty],
                         ["refuse", "refuse", "refuse", "clears", "given"])
        for rule, words in RULES.items():
            for word in words:
                self.assertEqual(getattr(Schema((MODE,), **{rule: word}), rule), word)

    def test_number_of_settings(self):
        self.fails("settings", [])
        self.fails("settings", ())
        self.fails("settings", [*ALL, Setting("more", "word")])
        self.assertEqual(len(Schema([MODE])), 1)

    def test_names(self):
        self.fails("names", [MODE, MODE])
        self.fails("names", [MODE, Setting("old", "word")])
        self.fails("names", [NAME, Setting("other", "word", elders=("name",))])
        self.fails("names", [MODE, Setting("other", "word", elders=("new", "old"))])

    def test_rules(self):
        for rule in RULES:
            for word in ["", "odd", None, True, 1, ["refuse"], ("given",), "Refuse", "yes"]:
                self.fails(rule, [MODE], **{rule: word})
        self.fails("unknown", [MODE], unknown="last")
        self.fails("wrong", [MODE], wrong="pass")

    def test_first_that_fails(self):
        rules = list(RULES)
        for first in range(5):
            wrong = {rule: "odd" for rule in reversed(rules[first:])}
            self.fails(rules[first], [MODE], **wrong)
        everything = {rule: "odd" for rule in rules}
        self.fails("names", [MODE, MODE], **everything)
        self.fails("settings", [MODE] * 5, **everything)

    def test_settings_are_copied(self):
        settings = [MODE]
        schema = Schema(settings)
        settings.append(NAME)
        self.assertEqual(schema.names, ("mode",))
        self.assertEqual(list(schema), [MODE])

    def test_iteration_and_length(self):
        schema = Schema(ALL)
        self.assertEqual(list(schema), ALL)
        self.assertEqual([setting.name for setting in schema], ["mode", "name", "size", "rows"])
        self.assertEqual([setting.name for setting in schema], ["mode", "name", "size", "rows"])
        self.assertEqual(len(schema), 4)

    def test_equality(self):
        schema = Schema([MODE, NAME])
        self.assertEqual(schema, Schema((MODE, NAME)))
        for other in [Schema([NAME, MODE]), Schema([MODE]), Schema([MODE, SIZE]), None, 1, [MODE, NAME]]:
            self.assertNotEqual(schema, other)
        for rule, words in RULES.items():
            self.assertNotEqual(schema, Schema([MODE, NAME], **{rule: words[1]}))


class Asked(unittest.TestCase):
    def test_called(self):
        schema = Schema(ALL)
        for word, name in [("mode", "mode"), ("old", "mode"), ("big", "size"), ("wide", "size"), ("rows", "rows")]:
            self.assertEqual(schema.called(word), name)
        for thing in ["other", "", None, 1, ("mode",), ["mode"], True, {}]:
            self.assertIsNone(schema.called(thing))

    def test_setting(self):
        schema = Schema(ALL)
        self.assertEqual([schema.setting(name) for name in schema.names], ALL)
        for thing in NO_NAMES:
            for ask in (lambda: schema.setting(thing), lambda: schema.fits(thing, None),
                        lambda: met(schema, thing, (), 7)):
                with self.assertRaises(NoSetting) as caught:
                    ask()
                self.assertIs(caught.exception.name, thing)

    def test_fits(self):
        schema = Schema(ALL)
        self.assertIs(schema.fits("mode", "x"), True)
        self.assertIs(schema.fits("mode", "z"), False)
        self.assertIs(schema.fits("size", 3), True)
        self.assertIs(schema.fits("size", True), False)
        self.assertIs(schema.fits("rows", ("a b",)), True)
        self.assertIs(schema.fits("rows", None), True)

    def test_with_setting(self):
        schema = Schema([MODE, SIZE], doubled="join", empty="lacks")
        other = schema.with_setting(Setting("size", "word", elders=("tall",)))
        self.assertEqual(other, Schema([MODE, Setting("size", "word", elders=("tall",))], doubled="join", empty="lacks"))
        self.assertEqual(schema, Schema([MODE, SIZE], doubled="join", empty="lacks"))
        for name in ("other", "old"):
            with self.assertRaises(NoSetting) as caught:
                schema.with_setting(Setting(name, "word", elders=("mode",)))
            self.assertEqual(caught.exception.name, name)
        for elder in ("mode", "old"):
            with self.assertRaises(BadSchema) as caught:
                schema.with_setting(Setting("size", "word", elders=(elder,)))
            self.assertEqual(caught.exception.what, "names")

    def test_with_rules(self):
        schema = Schema([MODE], doubled="last")
        self.assertEqual(schema.with_rules(wrong="lack"), Schema([MODE], doubled="last", wrong="lack"))
        self.assertEqual(schema.with_rules(), schema)
        self.assertEqual(schema, Schema([MODE], doubled="last"))
        for more, what in [({"odd": "x"}, "odd"), ({"unknown": "x", "names": 1, "odd": 2}, "names"),
                           ({"empty": "x", "wrong": "y"}, "wrong"), ({"settings": []}, "settings")]:
            with self.assertRaises(BadSchema) as caught:
                schema.with_rules(**more)
            self.assertEqual(caught.exception.what, what)


class Met(unittest.TestCase):
    SEENS = {"mode": [("lack",), ("value", None), ("value", "x")],
             "rows": [("lack",), ("value", None), ("value", ()), ("value", ("a", "b"))]}
    VALUES = {"mode": ["y", None], "rows": [("c",), (), None]}
    WRONG = {"mode": ["z", 1, (), True], "rows": ["a", 1, ["a"], ("a b c",)]}

    def schemas(self, **more):
        return {word: Schema(ALL, doubled=word, **more) for word in RULES["doubled"]}

    def test_first_entry(self):
        for word, schema in self.schemas(wrong="lack").items():
            for name in self.VALUES:
                for value in self.VALUES[name]:
                    self.assertEqual(met(schema, name, (), value), ("value", value))
                for value in self.WRONG[name]:
                    self.assertEqual(met(schema, name, (), value), ("lack",))

    def test_doubled_refused(self):
        for wrong in ("refuse", "lack"):
            schema = Schema(ALL, wrong=wrong)
            for name, seens in self.SEENS.items():
                for seen in seens:
                    for value in self.VALUES[name]:
                        with self.assertRaises(DoubledName) as caught:
                            met(schema, name, seen, value, entry=5)
                        self.assertEqual((caught.exception.entry, caught.exception.name), (5, name))
        for seen in self.SEENS["mode"]:
            with self.assertRaises(DoubledName):
                met(Schema(ALL, wrong="lack"), "mode", seen, "z")

    def test_wrong_refused_first(self):
        for schema in self.schemas().values():
            for name, seens in self.SEENS.items():
                for seen in [(), *seens]:
                    for value in self.WRONG[name]:
                        with self.assertRaises(WrongKind) as caught:
                            met(schema, name, seen, value, entry=3)
                        self.assertEqual((caught.exception.entry, caught.exception.name), (3, name))
        with self.assertRaises(WrongKind) as caught:
            met(Schema(ALL), "mode", (), 1)
        self.assertEqual(caught.exception.entry, 0)

    def test_first_and_last(self):
        schemas = self.schemas(wrong="lack")
        for name, seens in self.SEENS.items():
            for seen in seens:
                for value in self.VALUES[name] + self.WRONG[name]:
                    now = ("value", value) if value in self.VALUES[name] else ("lack",)
                    self.assertEqual(met(schemas["first"], name, seen, value), seen)
                    self.assertEqual(met(schemas["last"], name, seen, value), now)
                    if name == "mode":
                        self.assertEqual(met(schemas["join"], name, seen, value), now)

    def test_join(self):
        for row in (ROWS, ROWS.changed(join=False)):
            schema = Schema([row], doubled="join", wrong="lack")
            for seen in self.SEENS["rows"]:
                self.assertEqual(met(schema, "rows", seen, "wrong"), seen)
                self.assertEqual(met(schema, "rows", seen, None), ("value", None))
            self.assertEqual(met(schema, "rows", ("lack",), ("c",)), ("value", ("c",)))
            self.assertEqual(met(schema, "rows", ("value", None), ("c",)), ("value", ("c",)))
            self.assertEqual(met(schema, "rows", ("value", None), ()), ("value", ()))
            self.assertEqual(met(schema, "rows", ("value", ()), ("c",)), ("value", ("c",)))
            self.assertEqual(met(schema, "rows", ("value", ("a", "b")), ("c", "a")), ("value", ("a", "b", "c", "a")))
            self.assertEqual(met(schema, "rows", ("value", ("a",)), ()), ("value", ("a",)))


if __name__ == "__main__":
    unittest.main()
