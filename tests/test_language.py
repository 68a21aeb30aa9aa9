import unittest

from samples import all_languages
from slipreach.errors import BadLanguage
from slipreach.language import STATES, Language

SORTS = ["word", "number", "=", ";", ",", "[", "]"]

OPTIONS = ["equals", "end", "comma", "last", "doubled", "bare", "nothing"]

ALLOWED = {
    "equals": ["must", "may"], "end": ["must", "between", "may"], "comma": ["must", "may", "joins"],
    "last": ["never", "may", "must"], "doubled": [(), [], ("=",), [";", "="], ("=", ";", ","), [",", ";", "="]],
    "bare": [True, False], "nothing": [True, False],
}

WRONG = {
    "equals": ["", "never", "between", None, True, 1, ("must",), ["may"], "Must"],
    "end": ["", "never", "joins", None, 0, {}],
    "comma": ["never", "between", None, [], False],
    "last": ["joins", "between", None, b"may"],
    "doubled": ["", "=", None, ("=", "="), [";", ";"], ("[",), ("=", "]"), (1,), ([],), {"="}, {"=": 1}, ("==",)],
    "bare": [0, 1, None, "True", ()],
    "nothing": [0, 1, None, "False", []],
}


def next_state(language, state, sort):
    """Point 1.5, written down once more."""
    rows = {("start", "word"): "name", ("ended", "word"): "name", ("name", "="): "equals",
            ("equals", "word"): "done", ("equals", "number"): "done", ("equals", "["): "open",
            ("open", "word"): "item", ("open", "]"): "done", ("item", ","): "comma", ("pair", ","): "comma",
            ("comma", "word"): "item", ("done", ";"): "ended"}
    if language.equals == "may":
        rows |= {("name", "word"): "done", ("name", "number"): "done", ("name", "["): "open"}
    elif language.bare and language.end == "may":
        rows["name", "word"] = "name"
    if language.bare:
        rows["name", ";"] = "ended"
    if language.nothing:
        rows["equals", ";"] = "ended"
    for sign, place in (("=", "equals"), (";", "ended"), (",", "comma")):
        if sign in language.doubled:
            rows[place, sign] = place
    if language.comma != "must":
        rows["item", "word"] = "item" if language.comma == "may" else "pair"
    if language.last != "must":
        rows["item", "]"] = rows["pair", "]"] = "done"
    if language.last != "never":
        rows["comma", "]"] = "done"
    if language.end == "may":
        rows["done", "word"] = "name"
    return rows.get((state, sort))


def may_close(language, state):
    if state in ("start", "ended"):
        return True
    rows = {"done": True, "name": language.bare, "equals": language.nothing}
    return language.end != "must" and rows.get(state, False)


class Options(unittest.TestCase):
    def test_defaults(self):
        language = Language()
        self.assertEqual([getattr(language, option) for option in OPTIONS],
                         ["must", "must", "must", "never", (), False, False])

    def test_allowed_values(self):
        for option, values in ALLOWED.items():
            for value in values:
                language = Language(**{option: value})
                wanted = tuple(sign for sign in "=;," if sign in value) if option == "doubled" else value
                self.assertEqual(getattr(language, option), wanted)
                self.assertEqual(type(getattr(language, option)), type(wanted))

    def test_wrong_values(self):
        for option, values in WRONG.items():
            for value in values:
                with self.assertRaises(BadLanguage) as caught:
                    Language(**{option: value})
                self.assertEqual(caught.exception.option, option, value)

    def test_first_wrong_option(self):
        for first in range(7):
            for second in range(first + 1, 7):
                wrong = {OPTIONS[second]: WRONG[OPTIONS[second]][0], OPTIONS[first]: WRONG[OPTIONS[first]][0]}
                with self.assertRaises(BadLanguage) as caught:
                    Language(**wrong)
                self.assertEqual(caught.exception.option, OPTIONS[first])

    def test_doubled_is_copied(self):
        doubled = [",", "="]
        language = Language(doubled=doubled)
        doubled.append(";")
        self.assertEqual(language.doubled, ("=", ","))
        self.assertEqual(language.step("ended", ";"), None)

    def test_with_options(self):
        language = Language(equals="may", doubled=(";",))
        other = language.with_options(end="may", bare=True)
        self.assertEqual(other, Language(equals="may", doubled=(";",), end="may", bare=True))
        self.assertEqual(language, Language(equals="may", doubled=(";",)))
        self.assertEqual(language.with_options(), language)
        self.assertEqual(other.step("name", ";"), "ended")

    def test_with_wrong_options(self):
        for more, option in [({"ends": "may"}, "ends"), ({"equals": 1, "odd": 2, "even": 3}, "odd"),
                             ({"nothing": 0, "bare": 0}, "bare"), ({"state": 1, "last": None}, "state"),
                             ({"doubled": "="}, "doubled")]:
            with self.assertRaises(BadLanguage) as caught:
                Language().with_options(**more)
            self.assertEqual(caught.exception.option, option)

    def test_equality(self):
        plain = Language()
        self.assertEqual(plain, Language())
        self.assertEqual(Language(doubled=[",", "="]), Language(doubled=("=", ",")))
        for option, values in ALLOWED.items():
            other = Language(**{option: values[-1] if option != "last" else "may"})
            if option in ("bare", "nothing"):
                other = Language(**{option: True})
            self.assertNotEqual(plain, other, option)
        for thing in [None, 0, "must", (), object()]:
            self.assertFalse(plain == thing)


class States(unittest.TestCase):
    def test_states(self):
        self.assertEqual(STATES, ("start", "name", "equals", "open", "item", "pair", "comma", "done", "ended"))

    def test_every_step_of_every_language(self):
        for language in all_languages():
            for state in STATES:
                for sort in SORTS:
                    self.assertEqual(language.step(state, sort), next_state(language, state, sort))
                self.assertIs(language.closes(state), may_close(language, state))
                self.assertIs(language.begins(state), next_state(language, state, "word") == "name")
                sorts = [sort for sort in SORTS if next_state(language, state, sort)]
                wanted = tuple(sorts + ["end"] * may_close(language, state))
                self.assertEqual(language.next_sorts(state), wanted)

    def test_strings_that_are_no_states_or_sorts(self):
        language = Language()
        self.assertIsNone(language.step("nowhere", "word"))
        self.assertIsNone(language.step("start", "name"))
        self.assertIs(language.closes("nowhere"), False)
        self.assertIs(language.begins("nowhere"), False)


if __name__ == "__main__":
    unittest.main()
