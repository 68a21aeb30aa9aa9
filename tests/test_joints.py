import itertools
import random
import unittest

from houses import OWNER, house_of, some_pair
from slipreach.errors import BadRow, DoubledName, SettingsError, TooManyConducts, WrongKind
from slipreach.joints import Joint
from slipreach.kinds import Setting
from slipreach.language import Language
from slipreach.layers import finished, over
from slipreach.pairing import Pair
from slipreach.rowkinds import Table, fresh_words
from slipreach.schema import met
from slipreach.writer import writable

ROWS = Setting("rows", "list")
NOTE = Setting("note", "word", elders=("remark",))
TEXT = "for @rows\n  or owner is item\nor owner is @note\ntake"


def cost(value):
    return 1 + len(value) if isinstance(value, tuple) else 1


def standard(layers=2, **rules):
    return house_of([ROWS, NOTE], TEXT, OWNER, layers, **rules)


def joint_of(first, second, word, row=None):
    pair = Pair(first, second)
    group = [one for one in pair.groups() if word in one or (word is None and one.words == ())][0]
    return Joint(pair, group, row or {"owner": "b"})


class Whole:
    """What a house knows of a group with the very values, not plain ones: a second reading of 10.5 and 10.6."""

    def __init__(self, house, names):
        self.house, self.schema, self.names = house, house.schema, names
        self.known = {name: [(), ()] for name in names}
        self.is_refused = False

    def enter(self, word, value):
        name = self.schema.called(word)
        if name is None:
            self.is_refused = self.is_refused or self.schema.unknown == "refuse"
            return
        try:
            self.known[name][0] = met(self.schema, name, self.known[name][0], value)
        except (WrongKind, DoubledName):
            self.is_refused = True

    def rise(self):
        for name in self.names:
            seen, below = self.known[name]
            self.known[name] = [(), over(self.schema, name, below, seen)]

    def finish(self):
        found = []
        for name in self.names:
            seen, below = self.known[name]
            try:
                found.append(finished(self.schema, name, over(self.schema, name, below, seen), seen))
            except SettingsError:
                self.is_refused = True
        return "refused" if self.is_refused else found


def some_value(chance, language):
    words = ["a", "b", "c", "all", "yes", "zz", "z"]
    items = words + (["a b", "zz a"] if language.comma == "joins" else [])
    value = chance.choice([chance.choice(words), chance.choice([0, 1, 2, 4, 5, 9]),
                           tuple(chance.choice(items) for _ in range(chance.randint(0, 3))), None])
    return value if value is not None or language.nothing else "a"


def some_joint(chance):
    first, second = some_pair(chance)
    pair = Pair(first, second)
    table = first.builder.table
    row = {column: chance.choice(["a", "b", "zz", "a b"]) for column in table.words}
    row.update({column: chance.choice([0, 1, 3, 4, 20]) for column in table.numbers})
    return Joint(pair, chance.choice(pair.groups()), row)


class Standings(unittest.TestCase):
    def test_attributes(self):
        row = {"owner": "b"}
        pair = Pair(standard(), standard())
        group = pair.groups()[0]
        joint = Joint(pair, group, row)
        row.clear()
        self.assertIs(joint.pair, pair)
        self.assertIs(joint.group, group)
        self.assertEqual(joint.row, {"owner": "b"})
        for bad in ({}, {"owner": "B"}, {"owner": 3}, {"owner": "b", "size": 1}, None, "owner", [("owner", "b")]):
            with self.assertRaises(BadRow):
                Joint(pair, group, bad)

    def test_start_and_end(self):
        joint = joint_of(standard(), standard(), "rows")
        self.assertEqual(joint.start(), (0, (((), ()),), (((), ()),)))
        above = joint.raised(joint.start())
        self.assertEqual(above, (1, (((), ()),), (((), ()),)))
        self.assertEqual(joint.raised(above), ("end", ((),), ((),)))
        strange = joint_of(standard(), standard(), None)
        self.assertEqual(strange.start(), (0, (), ()))
        self.assertEqual(strange.raised(strange.raised(strange.start())), ("end", (), ()))

    def test_entered_and_refused(self):
        joint = joint_of(standard(doubled="last"), standard(), "rows")
        nothing = joint.entered(joint.start(), ("rows", ()))
        self.assertEqual(nothing, (0, ((("value", ()), ()),), ((("value", ()), ()),)))
        again = joint.entered(nothing, ("rows", ("b", "zz")))
        plain = again[1][0][0][1]
        self.assertEqual(again, (0, ((("value", plain), ()),), "refused"))
        self.assertEqual(joint.raised(again), (1, (((), (plain,)),), "refused"))
        self.assertEqual(joint.raised(joint.raised(again)), ("end", ((plain,),), "refused"))
        wrong = joint.entered(joint.start(), ("rows", 3))
        self.assertEqual(wrong, (0, "refused", "refused"))
        self.assertEqual(joint.entered(wrong, ("rows", ("a",))), wrong)
        self.assertEqual(joint.raised(joint.raised(wrong)), ("end", "refused", "refused"))
        demanded = joint_of(house_of([NOTE.changed(demand="some")], "take"), house_of([NOTE], "take"), "note")
        self.assertEqual(demanded.raised(demanded.start()), ("end", "refused", ((),)))

    def test_words_of_one_schema_alone(self):
        first, second = standard(), house_of([ROWS, Setting("note", "word")], TEXT, OWNER, 2, unknown="pass")
        joint = joint_of(first, second, "remark")
        elder = joint.entered(joint.start(), ("remark", "b"))
        self.assertEqual(elder, (0, ((("value", "b"), ()),), (((), ()),)))
        back = joint_of(second, first, "remark")
        self.assertEqual(back.entered(back.start(), ("remark", "b")), (0, (((), ()),), ((("value", "b"), ()),)))
        strange = joint_of(first, second, None)
        self.assertEqual(strange.entered(strange.start(), strange.letters()[0]), (0, "refused", ()))
        self.assertEqual(dict(strange.standings()), {
            (0, (), ()): 0, (1, (), ()): 0, ("end", (), ()): 0, (0, "refused", ()): 1, (1, "refused", ()): 1,
            ("end", "refused", ()): 1})

    def test_long_lists(self):
        joint = joint_of(standard(), standard(doubled="last"), "rows")
        long = joint.entered(joint.start(), ("rows", tuple(["zz"] * 4000 + ["b"])))
        self.assertEqual(long, joint.entered(joint.start(), ("rows", ("b",))))

    def test_letters(self):
        for seed in range(60):
            joint = some_joint(random.Random(seed))
            letters = joint.letters()
            self.assertEqual(len(letters), len(set(letters)))
            schemas = (joint.pair.first.schema, joint.pair.second.schema)
            for word, value in letters:
                self.assertTrue(writable(joint.pair.first.language, (word, value)))
                self.assertEqual(word in joint.group, joint.group.words != ())
                called = [schema.called(word) for schema in schemas]
                self.assertEqual(called == [None, None], joint.group.words == ())
            if joint.group.words == ():
                self.assertEqual(len(letters), 1)
            letters.clear()
            self.assertGreater(len(joint.letters()), 0)

    def test_each_entry_does_what_a_letter_does(self):
        for seed in range(60):
            chance = random.Random(seed)
            joint = some_joint(chance)
            language = joint.pair.first.language
            words = list(joint.group.words) or ["odd"]
            standings = [row for row, _ in joint.standings() if row[0] != "end"]
            for _ in range(15):
                entry = (chance.choice(words), some_value(chance, language))
                rows = chance.sample(standings, min(len(standings), 12))
                wanted = [joint.entered(row, entry) for row in rows]
                self.assertTrue(any(cost(letter[1]) <= cost(entry[1])
                                    and [joint.entered(row, letter) for row in rows] == wanted
                                    for letter in joint.letters()), entry)

    def test_against_the_very_values(self):
        """Beside the row the builders make the same of plain values; refusals and nothing are told as they are."""
        ends = 0
        for seed in range(300):
            chance = random.Random(seed)
            joint = some_joint(chance)
            houses = (joint.pair.first, joint.pair.second)
            sides = [Whole(house, names) for house, names in zip(houses, (joint.group.first, joint.group.second))]
            standing = joint.start()
            for layer in range(houses[0].layers):
                for _ in range(chance.choice([0, 0, 1, 1, 2])):
                    entry = (chance.choice(list(joint.group.words) or ["odd"]), some_value(chance, houses[0].language))
                    standing = joint.entered(standing, entry)
                    for side in sides:
                        side.enter(*entry)
                    for told, side in zip(standing[1:], sides):
                        self.assertEqual(told == "refused", side.is_refused)
                        if not side.is_refused:
                            self.check_known(told, side)
                if layer < houses[0].layers - 1:
                    standing = joint.raised(standing)
                    for side in sides:
                        side.rise()
            standing = joint.raised(standing)
            self.assertEqual(standing[0], "end")
            for told, side, house in zip(standing[1:], sides, houses):
                found = side.finish()
                self.assertEqual(told == "refused", found == "refused")
                if found != "refused":
                    ends += 1
                    self.check_outcome(house, joint.row, side.names, told, found)
        self.assertGreater(ends, 200)

    def check_known(self, told, side):
        for (seen, below), name in zip(told, side.names):
            for plain, worth in zip((seen, below), side.known[name]):
                self.assertEqual(len(plain), len(worth))
                for thing in (None, ()):
                    self.assertEqual(plain[-1:] == (thing,), worth[-1:] == (thing,))
            self.assertEqual(seen[:1], side.known[name][0][:1])

    def check_outcome(self, house, row, names, told, found):
        outcomes = []
        for worths in (told, found):
            values = {name: worth[0] for name, worth in zip(names, worths) if worth != ()}
            outcomes.append(house.builder.outcome(row, values))
        self.assertEqual(outcomes[0], outcomes[1])

    def test_least_weights(self):
        """The table against all short rows of entries."""
        for seed in range(40):
            joint = some_joint(random.Random(seed))
            rows = joint.standings()
            table = dict(rows)
            self.assertEqual(len(rows), len(table))
            self.assertEqual([weight for _, weight in rows], sorted(weight for _, weight in rows))
            letters, top = joint.letters(), joint.pair.first.layers
            least = {}
            moves = [*letters, None] if len(letters) < 8 else [*letters[:7], None]
            for count in range(top + 3):
                for path in itertools.product(moves, repeat=count):
                    if path.count(None) <= top and (None not in path or path.count(None) < top or path[-1] is None):
                        standing, weight = joint.start(), 0
                        for entry in path:
                            standing = joint.raised(standing) if entry is None else joint.entered(standing, entry)
                            weight += 0 if entry is None else cost(entry[1])
                        least[standing] = min(least.get(standing, weight), weight)
                if len(moves) ** (count + 1) > 5000:
                    break
            for standing in least:
                self.assertIn(standing, table)
                self.assertLessEqual(table[standing], least[standing])
            if len(letters) < 8:
                for standing, weight in table.items():
                    if weight <= 1 and standing in least:
                        self.assertEqual(weight, least[standing])


class Faults(unittest.TestCase):
    def test_no_fault(self):
        for seed in range(60):
            chance = random.Random(seed)
            joint = some_joint(chance)
            rows = joint.standings()
            self.assertIsNone(joint.fault(rows))
            chance.shuffle(rows)
            self.assertIsNone(joint.fault(rows))

    def test_each_fault(self):
        joint = joint_of(standard(), standard(doubled="last"), "note")
        rows = joint.standings()
        first = (joint.start(), 0)
        self.assertEqual(rows[0], first)
        self.assertEqual(joint.fault([]), ("start",))
        self.assertEqual(joint.fault(rows[1:]), ("start",))
        self.assertEqual(joint.fault([(joint.start(), 1), *rows[1:]]), ("start",))
        self.assertEqual(joint.fault([*rows, rows[3]]), ("double", len(rows)))
        self.assertEqual(joint.fault([*rows, (rows[3][0], 9)]), ("double", len(rows)))
        self.assertEqual(joint.fault([(joint.start(), 5), *rows]), ("source", 0))
        self.assertEqual(joint.fault([first]), ("step", 0))
        last = rows[-1]
        self.assertEqual(joint.fault([*rows[:-1], (last[0], last[1] - 1)])[0], "source")
        heavy = [(standing, weight + 1) if k == len(rows) - 1 else (standing, weight)
                 for k, (standing, weight) in enumerate(rows)]
        self.assertEqual(joint.fault(heavy)[0], "step")

    def test_order_of_faults(self):
        for seed in range(80):
            chance = random.Random(seed)
            joint = some_joint(chance)
            rows = joint.standings()
            for _ in range(chance.randint(1, 2)):
                k = chance.randrange(len(rows))
                chance.choice([lambda: rows.pop(k), lambda: rows.append(rows[k]),
                               lambda: rows.insert(k, (rows[k][0], rows[k][1] + 1)),
                               lambda: rows.__setitem__(k, (rows[k][0], rows[k][1] + chance.choice([-1, 1])))])()
                if not rows:
                    break
            self.assertEqual(joint.fault(rows), self.told(joint, rows))

    def told(self, joint, rows):
        if (joint.start(), 0) not in rows:
            return ("start",)
        weights = {}
        for standing, weight in rows:
            weights.setdefault(standing, weight)
        ways = [self.ways(joint, standing, weight) for standing, weight in rows]
        for k, (standing, weight) in enumerate(rows):
            if standing in [row[0] for row in rows[:k]]:
                return ("double", k)
            if any(other not in weights or weights[other] > most for other, most in ways[k]):
                return ("step", k)
            if (standing, weight) != (joint.start(), 0) and not any((standing, weight) in some for some in ways):
                return ("source", k)
        return None

    def ways(self, joint, standing, weight):
        if standing[0] == "end":
            return []
        rows = [(joint.entered(standing, letter), weight + cost(letter[1])) for letter in joint.letters()]
        return [*rows, (joint.raised(standing), weight)]


if __name__ == "__main__":
    unittest.main()
