import random
import unittest

from houses import OWNER, house_of, many_house, some_house, some_rule
from slipreach.beside import Beside
from slipreach.errors import DoubledName, NoSetting, SettingsError, TooManyConducts, WrongKind
from slipreach.finals import finals
from slipreach.kinds import Setting
from slipreach.language import Language
from slipreach.layers import finished, over
from slipreach.rules import SlipRule
from slipreach.schema import met
from slipreach.standings import start, steps, table, table_fault

ROWS = Setting("rows", "list", join=True)
NOTE = Setting("note", "word")
TEXT = "for @rows\n  or owner is item\nor owner is @note\ntake"


def beside_of(settings=(ROWS, NOTE), text=TEXT, layers=1, language=None, **rules):
    return Beside(house_of(list(settings), text, OWNER, layers, language, **rules), SlipRule(), {"owner": "b"})


class Reading:
    """A second reading of 8.13."""

    def __init__(self, beside, name, layer, before, after):
        self.beside, self.name, self.layer, self.before, self.after = beside, name, layer, before, after
        self.schema, self.top = beside.house.schema, beside.house.layers - 1

    def plain(self, thing):
        """A seen, a below or what is finished, with a plain value in it."""
        if thing == () or thing == ("lack",):
            return thing
        return (*thing[:-1], self.beside.plain_value(self.name, thing[-1]))

    def go(self, seen, values):
        for value in values:
            seen = self.plain(met(self.schema, self.name, seen, value))
        return seen

    def both(self, standing, phase, values, others):
        layer, _, seen, other, below, lower = standing
        try:
            seen = self.go(seen, values)
        except (WrongKind, DoubledName):
            return None
        if other != "schema":
            try:
                other = self.go(other, others)
            except (WrongKind, DoubledName):
                other = lower = "schema"
        return (layer, phase, seen, other, below, lower)

    def finish(self, below, seen):
        if "schema" in (below, seen):
            return "schema"
        total = self.plain(over(self.schema, self.name, below, seen))
        try:
            return self.plain(finished(self.schema, self.name, total, seen))
        except SettingsError:
            return "joining"

    def ended(self, standing):
        layer, phase, seen, other, below, lower = standing
        if layer == self.top:
            first = self.finish(below, seen)
            return None if first == "joining" else ("end", first, self.finish(lower, other))
        total = self.plain(over(self.schema, self.name, below, seen))
        if other == "schema":
            return (layer + 1, phase, (), "schema", total, "schema")
        return (layer + 1, phase, (), (), total, self.plain(over(self.schema, self.name, lower, other)))

    def ways(self, standing):
        """Tuples (standing, cost) behind a standing."""
        if standing[0] == "end":
            return []
        rows = [(self.both(standing, standing[1], [value], [value]),
                 1 + (len(value) if isinstance(value, tuple) else 0)) for value in self.beside.letters(self.name)]
        if standing[:2] == (self.layer, 0):
            rows.append((self.both(standing, 1, self.before, self.after), 0))
        else:
            rows.append((self.ended(standing), 0))
        return [row for row in rows if row[0] is not None]

    def steps(self, standing):
        return list(dict.fromkeys(row for row, _ in self.ways(standing)))

    def weights(self):
        """The least weight of each standing, by going on until nothing becomes less."""
        known = {start(): 0}
        queue = [start()]
        while queue:
            standing = queue.pop(0)
            for row, cost in self.ways(standing):
                if row not in known or known[standing] + cost < known[row]:
                    known[row] = known[standing] + cost
                    queue.append(row)
        return known


def some_case(chance):
    """A row beside a house, a setting, a layer, and what a slip changes; the lists are not long."""
    while True:
        house, rule = some_house(chance, most=(1, 2, 3)), some_rule(chance)
        table_columns = house.builder.table
        row = {column: chance.choice(["a", "ids", "zz", "b c"]) for column in table_columns.words}
        row.update({column: chance.choice([0, 2, 5]) for column in table_columns.numbers})
        beside, name = Beside(house, rule, row), chance.choice(house.schema.names)
        try:
            letters = beside.letters(name)
        except TooManyConducts:
            continue
        if 0 < len(letters) < 9:
            before, after = [[chance.choice(letters) for _ in range(chance.choice([0, 0, 1, 1, 2]))] for _ in "ab"]
            return beside, name, chance.randrange(house.layers), before, after


class Steps(unittest.TestCase):
    def test_start(self):
        self.assertEqual(start(), (0, 0, (), (), (), ()))

    def test_the_three_kinds(self):
        beside = beside_of(layers=2)
        letters = beside.letters("rows")
        self.assertEqual(letters, [(), ("b",), ("note",)])
        one = [(1, 0, ("value", letter), ("value", letter), ("x",), ("x",)) for letter in letters]
        standing = (1, 0, (), (), ("x",), ("x",))
        found = steps(beside, "rows", 1, [("b",)], [], standing)
        self.assertEqual(found, [*one, (1, 1, ("value", ("b",)), (), ("x",), ("x",))])
        self.assertEqual(steps(beside, "rows", 0, [], [], (0, 1, (), (), (), ()))[-1], (1, 1, (), (), (), ()))
        self.assertEqual(steps(beside, "rows", 1, [], [], start())[-1], (1, 0, (), (), (), ()))
        behind = (1, 1, ("value", ("b",)), (), (("note",),), (("note",),))
        self.assertEqual(steps(beside, "rows", 1, [], [], behind), [("end", (("b",),), (("note",),))])
        self.assertEqual(steps(beside, "rows", 1, [], [], ("end", (), ())), [])

    def test_refusals(self):
        beside = beside_of(layers=2)
        wrong = beside.plain_value("note", 5)
        self.assertEqual(steps(beside, "note", 0, [wrong], ["b"], start())[-1][:2], (0, 0))
        self.assertEqual(steps(beside, "note", 0, ["b"], [wrong], start())[-1],
                         (0, 1, ("value", "b"), "schema", (), "schema"))
        self.assertEqual(steps(beside, "note", 0, [], ["b", "b"], start())[-1], (0, 1, (), "schema", (), "schema"))
        refused = (0, 1, (), "schema", (), "schema")
        found = steps(beside, "note", 0, [], [], refused)
        self.assertEqual(found[0], (0, 1, ("value", "b"), "schema", (), "schema"))
        self.assertEqual(found[-1], (1, 1, (), "schema", (), "schema"))
        self.assertEqual(steps(beside, "note", 0, [], [], (0, 1, ("value", "b"), (), (), ())),
                         [(1, 1, (), (), ("b",), ())])
        doubled = steps(beside, "note", 0, [], [], (0, 1, (), ("value", "b"), (), ()))
        self.assertEqual(doubled[0], (0, 1, ("value", "b"), "schema", (), "schema"))

    def test_the_end(self):
        demanded = beside_of([NOTE.changed(demand="top")], "or owner is @note\ntake")
        self.assertEqual(steps(demanded, "note", 0, [], [], (0, 1, (), ("value", "b"), (), ())),
                         [(0, 1, ("value", word), "schema", (), "schema") for word in demanded.letters("note")])
        for other, below, second in [((), (), "joining"), ("schema", "schema", "schema"), (("value", "b"), (), ("b",))]:
            standing = (0, 1, ("value", "note"), other, (), below)
            self.assertEqual(steps(demanded, "note", 0, [], [], standing), [("end", ("note",), second)])
        default = beside_of([NOTE.changed(default="zz")], "or owner is @note\ntake")
        self.assertEqual(steps(default, "note", 0, [], [], (0, 1, (), (), (), ()))[-1], ("end", ("zz",), ("zz",)))

    def test_lists_become_plain(self):
        beside = beside_of(doubled="join", layers=2)
        found = steps(beside, "rows", 0, [("b",)], [("note",), ("b",)],
                      (0, 0, ("value", ("note",)), ("value", ("note",)), (), ()))
        self.assertEqual(found[-1], (0, 1, ("value", ("b",)), ("value", ("b",)), (), ()))
        standing = (1, 1, ("value", ("note",)), ("value", ("note",)), (("b",),), (("note",),))
        self.assertEqual(steps(beside, "rows", 0, [], [], standing)[-1], ("end", (("b",),), (("note",),)))

    def test_against_a_second_reading(self):
        for seed in range(120):
            beside, name, layer, before, after = some_case(random.Random(seed))
            reading = Reading(beside, name, layer, before, after)
            rows = table(beside, name, layer, before, after)
            self.assertEqual(rows[0], start())
            self.assertEqual(len(rows), len(set(rows)))
            for standing in rows:
                found = steps(beside, name, layer, before, after, standing)
                self.assertEqual(found, reading.steps(standing))
                self.assertEqual(len(found), len(set(found)))
            weights = reading.weights()
            self.assertEqual(set(rows), set(weights))
            ends = finals(beside, name, layer, before, after)
            self.assertEqual([row[2] for row in ends], sorted(row[2] for row in ends))
            self.assertEqual(len(ends), len({row[:2] for row in ends}))
            self.assertEqual({("end", *row[:2]): row[2] for row in ends},
                             {row: weights[row] for row in weights if row[0] == "end"})

    def test_no_setting_and_too_many(self):
        with self.assertRaises(NoSetting):
            steps(beside_of(), "odd", 0, [], [], start())
        beside = Beside(many_house(), SlipRule(), {"owner": "p", "maker": "q"})
        for call in (lambda: table(beside, "ids", 0, [], []), lambda: finals(beside, "ids", 0, [], [])):
            with self.assertRaises(TooManyConducts):
                call()
        self.assertGreater(len(table(beside, "note", 0, ["p"], [])), 5)


class Tables(unittest.TestCase):
    def test_faults(self):
        for seed in range(60):
            chance = random.Random(seed)
            beside, name, layer, before, after = some_case(chance)
            rows = table(beside, name, layer, before, after)
            judge = (lambda some: table_fault(beside, name, layer, before, after, some))
            self.assertIsNone(judge(rows))
            self.assertIsNone(judge(rows[::-1]))
            self.assertEqual(judge([]), ("start",))
            self.assertEqual(judge(rows[1:]), ("start",))
            if len(rows) > 1:
                gone = chance.choice(rows[1:])
                rest = [row for row in rows if row != gone]
                chance.shuffle(rest)
                wanted = [("step", index, gone) for index, row in enumerate(rest)
                          if gone in steps(beside, name, layer, before, after, row)]
                self.assertEqual(judge(rest), wanted[0])

    def test_first_missing_step(self):
        beside = beside_of(layers=2)
        found = steps(beside, "rows", 0, [], [("b",)], start())
        self.assertEqual(table_fault(beside, "rows", 0, [], [("b",)], [start()]), ("step", 0, found[0]))
        self.assertEqual(table_fault(beside, "rows", 0, [], [("b",)], [start(), found[0]]), ("step", 0, found[1]))
        some = [found[0], start(), *found[1:]]
        self.assertEqual(table_fault(beside, "rows", 0, [], [("b",)], some),
                         ("step", 0, steps(beside, "rows", 0, [], [("b",)], found[0])[-1]))


class Finals(unittest.TestCase):
    def test_least_weights(self):
        beside = beside_of([ROWS], "for @rows\n  or owner is item\ntake", layers=2)
        found = finals(beside, "rows", 0, [("b",)], [("rows",)])
        weights = {row[:2]: row[2] for row in found}
        b, rows = (("b",),), (("rows",),)
        # The entries that the slip changes do not count, and a file has no second one of this name.
        self.assertEqual(weights, {(b, rows): 0, (b, b): 2})
        self.assertEqual(found[0][2], 0)
        alone = beside_of([ROWS.changed(join=False)], "for @rows\n  or owner is item\ntake", layers=2)
        weights = {row[:2]: row[2] for row in finals(alone, "rows", 0, [("b",)], [])}
        self.assertEqual(weights, {(b, ()): 0, (b, b): 2, (rows, rows): 2, (((),), ((),)): 1})


if __name__ == "__main__":
    unittest.main()
