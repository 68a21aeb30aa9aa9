import unittest

from slipreach.errors import BadSetting
from slipreach.kinds import Setting, is_value

ODD = [True, False, -1, 10 ** 12, 1.0, "", "A", "a b", "l" * 13, "12", ["a"], [], ("a", 1), ("a b c",), ("a", ("b",)),
       (None,), {}, {"a"}, b"a", object(), ("l" * 13,), ("",)]


class Values(unittest.TestCase):
    def test_values(self):
        for thing in [None, "a", "l" * 12, 0, 1, 10 ** 12 - 1, (), ("a",), ("a b",), ("a", "b c", "a")]:
            self.assertIs(is_value(thing), True)
        for thing in ODD:
            self.assertIs(is_value(thing), False, thing)


class Fits(unittest.TestCase):
    SETTINGS = {
        "choice": Setting("a", "choice", words=("x", "y")), "word": Setting("a", "word"),
        "number": Setting("a", "number"), "list": Setting("a", "list"),
    }

    def test_values(self):
        taken = {"choice": ["x", "y"], "word": ["x", "y", "z", "l" * 12], "number": [0, 7, 10 ** 12 - 1],
                 "list": [(), ("x",), ("a b", "x"), ("x",) * 20]}
        values = [value for row in taken.values() for value in row]
        for kind, setting in self.SETTINGS.items():
            self.assertIs(setting.fits(None), True)
            for value in values:
                self.assertIs(setting.fits(value), value in taken[kind])

    def test_other_objects(self):
        for setting in self.SETTINGS.values():
            for thing in ODD:
                self.assertIs(setting.fits(thing), False, thing)


class Settings(unittest.TestCase):
    def good(self, *arguments, **more):
        return Setting(*arguments, **more)

    def bad(self, name, *arguments, **more):
        with self.assertRaises(BadSetting) as caught:
            Setting(name, *arguments, **more)
        self.assertIs(caught.exception.name, name)

    def test_attributes(self):
        setting = Setting("a", "list", default=("x",), elders=["b", "c"], join=True, filled=True)
        self.assertEqual((setting.name, setting.kind, setting.words, setting.default), ("a", "list", (), ("x",)))
        self.assertEqual((setting.elders, setting.join, setting.demand, setting.filled),
                         (("b", "c"), True, "no", True))
        setting = Setting("a", "choice", words=["x", "y"])
        self.assertEqual((setting.words, setting.elders, setting.default), (("x", "y"), (), None))

    def test_names_and_kinds(self):
        for name in ["", "A", "a b", "l" * 13, None, 1, True, ["a"], ("a",)]:
            self.bad(name, "word")
        self.good("l" * 12, "word")
        for kind in ["", "words", None, "choices", ["list"], 1]:
            self.bad("a", kind)

    def test_words(self):
        self.good("a", "choice", words=("x",))
        self.good("a", "choice", words=["w", "x", "y", "a"])
        for words in [(), ["u", "v", "w", "x", "y"], ("x", "x"), ("X",), ("x y",), (1,), "x", None, {"x"}, ("l" * 13,)]:
            self.bad("a", "choice", words=words)
        for kind in ("word", "number", "list"):
            self.good("a", kind, words=[])
            self.bad("a", kind, words=("x",))

    def test_defaults(self):
        self.good("a", "choice", words=("x", "y"), default="y")
        self.good("a", "word", default="l" * 12)
        self.good("a", "number", default=0)
        self.good("a", "number", default=999999999)
        self.good("a", "list", default=())
        self.good("a", "list", default=("x",) * 8)
        self.bad("a", "choice", words=("x", "y"), default="z")
        self.bad("a", "word", default="l" * 13)
        self.bad("a", "word", default=1)
        self.bad("a", "number", default=1000000000)
        for default in (True, False, -1, "1"):
            self.bad("a", "number", default=default)
        for default in [("x",) * 9, ("x y",), ["x"], "x", ("x", 1)]:
            self.bad("a", "list", default=default)

    def test_elders(self):
        self.good("a", "word", elders=("b", "c"))
        for elders in [("b", "c", "d"), ("a",), ("b", "b"), ("B",), (1,), "b", None, ("b", "a"), {"b"}]:
            self.bad("a", "word", elders=elders)

    def test_switches(self):
        for switch in ("join", "filled"):
            self.good("a", "list", **{switch: True})
            for kind in ("word", "number"):
                self.good("a", kind, **{switch: False})
                self.bad("a", kind, **{switch: True})
            self.bad("a", "choice", words=("x",), **{switch: True})
            for thing in (1, 0, None, "True", ()):
                self.bad("a", "list", **{switch: thing})

    def test_demand(self):
        for demand in ("no", "some", "top"):
            self.good("a", "word", demand=demand)
        self.good("a", "word", demand="no", default="x")
        for demand in ("some", "top"):
            self.bad("a", "word", demand=demand, default="x")
            self.bad("a", "list", demand=demand, default=())
            self.bad("a", "number", demand=demand, default=0)
        for demand in ("", "all", None, True, ["no"]):
            self.bad("a", "word", demand=demand)

    def test_calls(self):
        setting = Setting("a", "word", elders=("b", "c"))
        for word in "abc":
            self.assertIs(setting.calls(word), True)
        for thing in ["d", "", None, ("a",), 1]:
            self.assertIs(setting.calls(thing), False)

    def test_what_is_passed_is_copied(self):
        words, elders = ["x"], ["b"]
        setting = Setting("a", "choice", words=words, elders=elders)
        words.append("y")
        elders.append("c")
        self.assertEqual((setting.words, setting.elders), (("x",), ("b",)))

    def test_changed(self):
        setting = Setting("a", "list", default=("x",), elders=("b",), join=True)
        other = setting.changed(name="c", filled=True)
        self.assertEqual(other, Setting("c", "list", default=("x",), elders=("b",), join=True, filled=True))
        self.assertEqual(setting, Setting("a", "list", default=("x",), elders=("b",), join=True))
        self.assertEqual(setting.changed(), setting)
        self.assertEqual(setting.changed(default=None, demand="top").demand, "top")
        for more, name in [({"name": "b"}, "b"), ({"kind": "word"}, "a"), ({"demand": "some"}, "a"),
                           ({"words": ("x",)}, "a"), ({"name": "X"}, "X")]:
            with self.assertRaises(BadSetting) as caught:
                setting.changed(**more)
            self.assertEqual(caught.exception.name, name)

    def test_equality(self):
        setting = Setting("a", "list")
        self.assertEqual(setting, Setting("a", "list", words=[], elders=[]))
        for other in [Setting("b", "list"), Setting("a", "word"), Setting("a", "choice", words=("x",)),
                      Setting("a", "list", default=()), Setting("a", "list", elders=("b",)),
                      Setting("a", "list", join=True), Setting("a", "list", demand="top"),
                      Setting("a", "list", filled=True), None, "a", ("a", "list")]:
            self.assertNotEqual(setting, other)
        one = Setting("a", "choice", words=("x", "y"))
        self.assertNotEqual(one, Setting("a", "choice", words=("y", "x")))
        self.assertNotEqual(Setting("a", "word", elders=("b", "c")), Setting("a", "word", elders=("c", "b")))


if __name__ == "__main__":
    unittest.main()
