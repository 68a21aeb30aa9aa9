import itertools
import random
import unittest

from slipreach.checking import Checked, checked, complaints, entries_left
from slipreach.errors import DoubledName, NoEntry, NoSetting, UnknownName, WrongKind
from slipreach.kinds import Setting
from slipreach.schema import Schema

SETTINGS = [Setting("mode", "choice", words=("x", "y"), elders=("old",)), Setting("rows", "list", elders=("lines",)),
            Setting("size", "number")]

ENTRIES = [("mode", "x"), ("old", "y"), ("mode", "z"), ("mode", None), ("rows", ("a",)), ("lines", ("b", "c")),
           ("rows", ()), ("rows", None), ("rows", "a"), ("size", 1), ("size", "a"), ("odd", 5)]


def schemas():
    for unknown, doubled, wrong in itertools.product(("refuse", "pass"), ("refuse", "first", "last", "join"),
                                                     ("refuse", "lack")):
        yield Schema(SETTINGS, unknown=unknown, doubled=doubled, wrong=wrong)


def some_entries(chance):
    return [chance.choice(ENTRIES) for _ in range(chance.randint(0, 7))]


def fault(schema, entries):
    """The error of the first entry at fault, as a complaint, or None."""
    try:
        checked(schema, entries)
    except UnknownName as error:
        return error.entry, "unknown", error.word
    except WrongKind as error:
        return error.entry, "wrong", error.name
    except DoubledName as error:
        return error.entry, "doubled", error.name
    return None


def fault_by_hand(schema, entries):
    names = {"mode": "mode", "old": "mode", "rows": "rows", "lines": "rows", "size": "size"}
    met = set()
    for number, (word, value) in enumerate(entries):
        if word not in names:
            if schema.unknown == "refuse":
                return number, "unknown", word
            continue
        name = names[word]
        if not schema.fits(name, value) and schema.wrong == "refuse":
            return number, "wrong", name
        if name in met and schema.doubled == "refuse":
            return number, "doubled", name
        met.add(name)
    return None


def given_by_hand(schema, entries, name):
    """The seen and the sources, by looking at all entries of the setting at once."""
    rows = [(number, value) for number, (word, value) in enumerate(entries) if schema.called(word) == name]
    fitting = [(number, value) for number, value in rows if schema.fits(name, value)]
    if not rows:
        return (), ()
    if schema.doubled == "join" and name == "rows":
        if not fitting:
            return ("lack",), ()
        if fitting[-1][1] is None:
            return ("value", None), (fitting[-1][0],)
        behind = max([at for at, (_, value) in enumerate(fitting) if value is None], default=-1)
        lists = fitting[behind + 1:]
        return ("value", sum([value for _, value in lists], ())), tuple(number for number, _ in lists)
    number, value = rows[0] if schema.doubled == "first" else rows[-1]
    return (("value", value), (number,)) if (number, value) in fitting else (("lack",), ())


class Checks(unittest.TestCase):
    def test_errors_and_what_is_given(self):
        chance = random.Random(1)
        for schema in schemas():
            for _ in range(250):
                entries = some_entries(chance)
                wanted = fault_by_hand(schema, entries)
                self.assertEqual(fault(schema, entries), wanted)
                if wanted is None:
                    self.check_given(schema, entries)

    def check_given(self, schema, entries):
        found = checked(schema, tuple(entries))
        self.assertIsInstance(found, Checked)
        self.assertEqual((found.schema, found.entries, len(found)), (schema, tuple(entries), len(entries)))
        worths = {}
        for name in schema.names:
            seen, sources = given_by_hand(schema, entries, name)
            self.assertEqual((found.given(name), found.sources(name)), (seen, sources))
            numbers = [number for number, entry in enumerate(entries) if schema.called(entry[0]) == name]
            self.assertEqual(found.entries_of(name), tuple(numbers))
            if seen[:1] == ("value",):
                worths[name] = seen[1]
        self.assertEqual(list(found.worths.items()), list(worths.items()))

    def test_elder_name_is_a_double(self):
        self.assertEqual(fault(Schema(SETTINGS), [("mode", "x"), ("old", "y")]), (1, "doubled", "mode"))
        self.assertEqual(fault(Schema(SETTINGS), [("lines", ()), ("odd", 1), ("rows", ())]), (1, "unknown", "odd"))

    def test_worths(self):
        found = checked(Schema(SETTINGS, wrong="lack"), [("size", None), ("rows", "x"), ("mode", "y")])
        self.assertEqual(list(found.worths.items()), [("mode", "y"), ("size", None)])
        found.worths.clear()
        self.assertEqual(found.worths, {"mode": "y", "size": None})

    def test_no_setting(self):
        found = checked(Schema(SETTINGS), [("old", "x")])
        for thing in ["old", "odd", None, 1, ("mode",), True]:
            for ask in (found.given, found.sources, found.entries_of):
                with self.assertRaises(NoSetting) as caught:
                    ask(thing)
                self.assertIs(caught.exception.name, thing)

    def test_equality(self):
        schema = Schema(SETTINGS)
        found = checked(schema, [("mode", "x")])
        self.assertEqual(found, checked(Schema(SETTINGS), (("mode", "x"),)))
        for other in [checked(schema, [("mode", "y")]), checked(schema, [("old", "x")]), checked(schema, []),
                      checked(schema.with_rules(empty="lacks"), [("mode", "x")]), None, (("mode", "x"),)]:
            self.assertNotEqual(found, other)

    def test_what_is_passed_is_copied(self):
        entries = [("mode", "x")]
        found = checked(Schema(SETTINGS), entries)
        entries.append(("size", 1))
        self.assertEqual((found.entries, found.given("size")), ((("mode", "x"),), ()))


class OtherEntries(unittest.TestCase):
    def test_with_value_and_without(self):
        chance = random.Random(2)
        for schema in schemas():
            for _ in range(40):
                entries = entries_left(schema, some_entries(chance))
                found = checked(schema, entries)
                for number, (word, _) in enumerate(entries):
                    value = chance.choice(ENTRIES)[1]
                    other = [*entries[:number], (word, value), *entries[number + 1:]]
                    if fault(schema, other) is None:
                        self.assertEqual(found.with_value(number, value), checked(schema, other))
                    else:
                        with self.assertRaises((UnknownName, WrongKind, DoubledName)):
                            found.with_value(number, value)
                    less = entries[:number] + entries[number + 1:]
                    self.assertEqual(found.without(number), checked(schema, less))
                self.assertEqual(found.entries, tuple(entries))

    def test_no_entry(self):
        found = checked(Schema(SETTINGS), [("mode", "x"), ("size", 1)])
        for thing in [-1, 2, True, False, None, "0", 0.0, (0,), []]:
            for ask in (lambda: found.with_value(thing, 9), lambda: found.without(thing)):
                with self.assertRaises(NoEntry) as caught:
                    ask()
                self.assertIs(caught.exception.entry, thing)
        with self.assertRaises(WrongKind) as caught:
            found.with_value(1, "a")
        self.assertEqual((caught.exception.entry, caught.exception.name), (1, "size"))


class Complaints(unittest.TestCase):
    def test_complaints(self):
        chance = random.Random(3)
        for schema in schemas():
            for _ in range(60):
                entries = some_entries(chance)
                found = complaints(schema, entries)
                self.assertEqual(found, self.by_hand(schema, entries))
                numbers = [row[0] for row in found]
                left = [entry for number, entry in enumerate(entries) if number not in numbers]
                self.assertEqual(entries_left(schema, tuple(entries)), left)
                self.assertIsNone(fault(schema, left))
                self.assertEqual(complaints(schema, tuple(left)), [])
                self.check_least(schema, entries, len(numbers))

    def by_hand(self, schema, entries):
        rows, left = [], list(enumerate(entries))
        while True:
            found = fault(schema, [entry for _, entry in left])
            if found is None:
                return rows
            number, what, word = found
            rows.append((left[number][0], what, word))
            del left[number]

    def check_least(self, schema, entries, count):
        for fewer in range(count):
            for out in itertools.combinations(range(len(entries)), fewer):
                left = [entry for number, entry in enumerate(entries) if number not in out]
                self.assertIsNotNone(fault(schema, left))

    def test_example(self):
        schema = Schema(SETTINGS)
        entries = [("mode", "z"), ("odd", 1), ("mode", "x"), ("old", "y"), ("size", "a"), ("mode", 3)]
        self.assertEqual(complaints(schema, entries), [
            (0, "wrong", "mode"), (1, "unknown", "odd"), (3, "doubled", "mode"), (4, "wrong", "size"),
            (5, "wrong", "mode")])
        self.assertEqual(entries_left(schema, entries), [("mode", "x")])


if __name__ == "__main__":
    unittest.main()
