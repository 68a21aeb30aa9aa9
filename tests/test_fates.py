import itertools
import random
import unittest

from houses import OWNER, FileMaker, house_of, many_house, some_house, some_rule
from samples import all_files
from slipreach.conditions import parting
from slipreach.errors import BadGoal, FarReach, TooManyConducts
from slipreach.examples import example_fault
from slipreach.fates import Example, Fates, fates
from slipreach.house import weight
from slipreach.kinds import Setting
from slipreach.language import Language
from slipreach.playing import FATES, place_of, slipped, tried
from slipreach.reach import reach
from slipreach.rowkinds import Table, kind_rows
from slipreach.rules import SlipRule
from slipreach.slips import Slip
from slipreach.writer import plain

ROLES = ["name", "equals", "word", "number", "open", "item", "comma", "close", "end"]
KINDS = ["left", "doubled", "swapped", "written"]
ROWS = Setting("rows", "list")
TEXT = "for @rows\n  if item is 'all'\n    break\n  or owner is item\ntake"


def rank(house, place):
    return (KINDS.index(place[0]), place[1], ROLES.index(place[2]), [*house.schema.names, ""].index(place[3]))


def all_fates(house, files, layer, slip, row=None):
    """The fates of a slip beside any row, or beside one row too, of files that the house takes."""
    other, stage, _ = tried(house, slipped(files, layer, slip))
    if other is None:
        return [stage]
    before, after = tried(house, files)[0].condition, other.condition
    more, less = parting(before, after)
    found = [fate for fate, one in (("more", more), ("less", less)) if one is not None]
    if row is not None and before.takes(row) == after.takes(row):
        found.append("same")
    return found


class Checks(unittest.TestCase):
    def check_found(self, found):
        """Each place is listed in order, and each of its fates has an example of some weight."""
        house, rule = found.house, found.rule
        places = found.places()
        self.assertEqual(places, sorted(set(places), key=lambda place: rank(house, place)))
        weights = {}
        for place in places:
            row = found.of(place)
            self.assertEqual(row, tuple(fate for fate in FATES if fate in row))
            self.assertGreater(len(row), 0)
            for fate in FATES:
                example = found.example(place, fate)
                self.assertEqual(example is None, fate not in row)
                if example is not None:
                    self.assertIsNone(example_fault(house, rule, place, fate, example), (place, fate))
                    self.assertIn(example.row, house.builder.table)
                    weights[(place, fate)] = weight(house, example.files)
        return weights

    def check_shown(self, house, rule, weights, files, words, numbers, row=None):
        """What some files show is found, by no more weight."""
        if tried(house, files)[0] is None:
            return 0
        count, most = 0, weight(house, files)
        for layer, file in enumerate(files):
            for slip in rule.slips(file, words=words, numbers=numbers) if file is not None else []:
                place = place_of(house, files, layer, slip)
                for fate in all_fates(house, files, layer, slip, row):
                    self.assertLessEqual(weights.get((place, fate), 10 ** 9), most, (place, fate, files, vars(slip)))
                    count += 1
        return count


class Random(Checks):
    def test_against_random_files(self):
        count, lists = 0, 0
        for seed in range(130):
            chance = random.Random(seed)
            house, rule = some_house(chance), some_rule(chance)
            try:
                found = fates(house, rule)
            except FarReach as error:
                self.assertEqual(reach(house.language, rule).word, "far")
                self.assertTrue(rule.allows(error.file, error.slip))
                continue
            self.assertEqual(reach(house.language, rule).word, "near")
            weights = self.check_found(found)
            maker = FileMaker(chance, house, rule)
            for _ in range(60):
                files = maker.files()
                words = chance.sample(maker.words, min(4, len(maker.words)))
                numbers = [str(number) for number in maker.numbers[:3]]
                count += self.check_shown(house, rule, weights, files, words, numbers, maker.row())
            lists += len(weights)
        self.assertGreater(count, 20000)
        self.assertGreater(lists, 2000)

    def check_all_files(self, house, rule, most, words, numbers):
        """All files of few tokens in one layer, beside all sorts of rows."""
        weights = self.check_found(fates(house, rule))
        least = {}
        rows = kind_rows(house.builder.table, [*words, "yes"], [int(number) for number in numbers])
        for file in all_files(house.language, most, words, numbers):
            plan = tried(house, [file])[0]
            if plan is None:
                continue
            self.check_shown(house, rule, weights, [file], words, numbers)
            cost = weight(house, [file])
            for slip in rule.slips(file, words=words, numbers=numbers):
                place = place_of(house, [file], 0, slip)
                found = set(all_fates(house, [file], 0, slip))
                other = tried(house, slipped([file], 0, slip))[0]
                if other is not None and any(plan.condition.takes(row) == other.condition.takes(row) for row in rows):
                    found.add("same")
                for fate in found:
                    least[(place, fate)] = min(least.get((place, fate), cost), cost)
        for key in least:
            self.assertLessEqual(weights[key], least[key], key)
        return weights, least

    def test_all_files_of_few_tokens(self):
        text = "or owner is @note\nif @note is 'a'\n  not\ntake"
        for options, rules in [({}, {}), ({"end": "may", "bare": True, "equals": "may"}, {}),
                               ({"end": "between", "nothing": True}, {"doubled": "last", "unknown": "pass"}),
                               ({"bare": True, "end": "between"}, {"wrong": "lack", "doubled": "first"})]:
            language = Language(**options)
            for rule in (SlipRule("left", "swapped", "sign"), SlipRule("doubled", "word"),
                         SlipRule(looks=[("a", "note"), ("note", "a"), (";", "=")])):
                if reach(language, rule).word == "far":
                    continue
                for setting in (Setting("note", "word"), Setting("note", "word", demand="some")):
                    house = house_of([setting], text, language=language, **rules)
                    weights, least = self.check_all_files(house, rule, 6, ["note", "a", "b"], ["1"])
                    light = {key: cost for key, cost in weights.items() if cost <= 1}
                    self.assertEqual(light, {key: least[key] for key in light})

    def test_lists_of_few_tokens(self):
        for comma, last in itertools.product(("must", "may", "joins"), ("never", "may", "must")):
            language = Language(equals="may", comma=comma, last=last, end="between")
            house = house_of([ROWS], TEXT, language=language)
            rule = SlipRule("left", "doubled", "swapped", "sign")
            weights, least = self.check_all_files(house, rule, 7, ["rows", "a", "all"], [])
            light = {key: cost for key, cost in weights.items() if cost <= 2}
            self.assertEqual(light, {key: least[key] for key in light})


class Plain(Checks):
    def test_one_list(self):
        house = house_of([ROWS], TEXT)
        found = fates(house, SlipRule("left"))
        self.assertEqual((type(found), found.house), (Fates, house))
        self.assertEqual(found.rule, SlipRule("left"))
        self.assertEqual(found.places(), [("left", 0, role, "rows")
                                          for role in ("name", "equals", "open", "item", "comma", "close", "end")])
        self.assertEqual(found.of(("left", 0, "item", "rows")), ("reader", "same", "more"))
        self.assertEqual(found.of(("left", 0, "comma", "rows")), ("reader",))
        for place in [("left", 0, "word", "rows"), ("left", 1, "item", "rows"), ("left", 0, "item", ""),
                      ("doubled", 0, "item", "rows"), ("odd",)]:
            self.assertEqual(found.of(place), ())
            self.assertIsNone(found.example(place, "reader"))
        # Of `[a]` nothing is left, so the condition is blank; `[all]` is blank with and without it.
        example = found.example(("left", 0, "item", "rows"), "more")
        self.assertEqual((type(example), weight(house, example.files), example.layer), (Example, 2, 0))
        self.assertEqual(example.slip, Slip("left", 3))
        self.assertEqual(weight(house, found.example(("left", 0, "item", "rows"), "reader").files), 3)
        self.assertEqual(found.page(), [
            "left    0 name    rows         reader", "left    0 equals  rows         reader",
            "left    0 open    rows         reader", "left    0 item    rows         reader, same, more",
            "left    0 comma   rows         reader", "left    0 close   rows         reader",
            "left    0 end     rows         reader"])

    def test_stages(self):
        settings = [Setting("rows", "list", filled=True), Setting("mode", "word", demand="some"), Setting("n", "number")]
        text = "if @mode is 'odd'\n  refuse\nfor @rows\n  or owner is item\ntake"
        house = house_of(settings, text, layers=2)
        found = fates(house, SlipRule("left", "word", "number"))
        self.assertEqual(found.of(("left", 1, "item", "rows")), ("reader", "joining"))
        self.assertEqual(found.of(("written", 0, "name", "mode")), ("schema",))
        self.assertEqual(found.of(("written", 0, "word", "mode")), ("builder", "same"))
        self.assertEqual(found.of(("written", 1, "item", "rows")), ("same", "more", "less"))
        self.assertEqual(found.of(("written", 0, "number", "n")), ("same",))
        # A list that stands below is seen only if the upper file says nothing of it.
        self.assertEqual(weight(house, found.example(("written", 0, "item", "rows"), "more").files), 3)
        self.check_found(found)

    def test_nothing_is_taken(self):
        refusing = house_of([ROWS], "refuse\ntake")
        found = fates(refusing, SlipRule.every())
        self.assertEqual((found.places(), found.page(), found.silent("any")), ([], [], []))
        none = fates(house_of([ROWS], TEXT), SlipRule())
        self.assertEqual(none.places(), [])

    def test_unknown_names(self):
        passing = fates(house_of([ROWS], TEXT, unknown="pass"), SlipRule("left", "word"))
        self.assertEqual(passing.places()[0], ("left", 0, "name", "rows"))
        self.assertEqual([place for place in passing.places() if place[3] == ""][-1], ("written", 0, "item", ""))
        self.assertEqual(passing.of(("written", 0, "item", "")), ("same",))
        self.assertEqual(passing.of(("written", 0, "name", "")), ("schema", "same", "less"))
        self.assertEqual(passing.of(("written", 0, "name", "rows")), ("same", "more"))
        refusing = fates(house_of([ROWS], TEXT), SlipRule("left", "word"))
        self.assertEqual([place for place in refusing.places() if place[3] == ""], [])
        self.assertEqual(refusing.of(("written", 0, "name", "rows")), ("schema",))

    def test_elders(self):
        alone = fates(house_of([ROWS], TEXT), SlipRule("word"))
        self.assertEqual(alone.of(("written", 0, "name", "rows")), ("schema",))
        elder = fates(house_of([ROWS.changed(elders=["lines"])], TEXT), SlipRule("word"))
        self.assertEqual(elder.of(("written", 0, "name", "rows")), ("schema", "same"))
        self.check_found(elder)

    def test_sides_of_a_slip(self):
        """What a shape asks of the entries ahead and behind is heeded."""
        language = Language(end="between")
        house = house_of([ROWS, Setting("note", "word", demand="top")], TEXT, language=language)
        found = fates(house, SlipRule("left"))
        self.assertEqual(found.of(("left", 0, "end", "rows")), ("reader", "same"))
        weights = self.check_found(found)
        self.assertEqual(weights[(("left", 0, "end", "rows"), "reader")], 2)
        self.assertEqual(weights[(("left", 0, "end", "rows"), "same")], 2)
        lone = fates(house_of([ROWS], TEXT, language=language), SlipRule("left"))
        self.assertEqual(lone.of(("left", 0, "end", "rows")), ("same",))
        joint = Language(end="may", bare=True)
        free = fates(house_of([Setting("note", "word"), Setting("more", "word")], "or owner is @note\ntake",
                              language=joint, doubled="last"), SlipRule("doubled", "left"))
        self.check_found(free)

    def test_names_that_become_values(self):
        language = Language(equals="may", end="between", bare=True)
        house = house_of([Setting("note", "word"), Setting("mode", "word")], "or owner is @note\ntake",
                         language=language)
        found = fates(house, SlipRule("left"))
        self.assertEqual(reach(language, SlipRule("left")).word, "near")
        # In `note ; mode` without its sign, mode is the value of note, and no longer yes.
        place = ("left", 0, "end", "note")
        self.assertEqual(found.of(place), ("reader", "same", "more", "less"))
        self.assertEqual(weight(house, found.example(place, "more").files), 2)
        self.assertEqual(found.example(place, "less").row, {"owner": "yes"})
        self.assertIn(found.example(place, "more").row["owner"], ("mode", "note"))
        self.check_found(found)

    def test_values_of_looks(self):
        house = house_of([Setting("note", "word"), Setting("n", "number")],
                         "or owner is @note\nor size below @n\ntake", Table(["owner"], ["size"]))
        found = fates(house, SlipRule(looks=[("l", "i"), ("10", "17"), ("7", "8")]))
        self.assertEqual(found.places(), [("written", 0, "word", "note"), ("written", 0, "number", "n")])
        example = found.example(("written", 0, "word", "note"), "more")
        self.assertEqual((example.files[0], example.row["owner"]), (["note", "=", "l", ";"], "i"))
        self.assertEqual(found.of(("written", 0, "number", "n")), ("same", "more"))
        self.assertEqual(found.of(("written", 0, "word", "note")), ("same", "more", "less"))
        self.check_found(found)

    def test_pairs(self):
        house = house_of([ROWS], TEXT, language=Language(comma="joins"))
        found = fates(house, SlipRule("left", "swapped"))
        place = ("left", 0, "comma", "rows")
        self.assertEqual(found.of(place), ("reader", "same", "more", "less"))
        example = found.example(place, "more")
        self.assertIn(" ", example.row["owner"])
        self.assertEqual(found.of(("swapped", 0, "item", "rows")), ("reader", "same", "more", "less"))
        self.check_found(found)

    def test_a_number_between(self):
        """The gap between told numbers matters: no number lies strictly between 3 and 4."""
        for told, wanted in ((4, ("same",)), (5, ("same", "less"))):
            text = f"if @n least {told}\n  refuse\nif @n below 4\n  refuse\nor size is @n\ntake"
            house = house_of([Setting("n", "number")], text, Table([], ["size"]))
            found = fates(house, SlipRule(looks=[("4", "4000"), ("4000", "4")]))
            self.assertEqual(found.of(("written", 0, "number", "n")), () if told == 4 else ("builder",))
        for default in (None, 6):
            text = "if @n below 4\n  refuse\nif @n least 6\n  refuse\nor size below @n\ntake"
            setting = Setting("n", "number", demand="some")
            found = fates(house_of([setting], text, Table([], ["size"])), SlipRule("number"))
            place = ("written", 0, "number", "n")
            self.assertEqual(found.of(place), ("builder", "same", "more", "less"))
            self.assertEqual(found.example(place, "more").row, {"size": 4})

    def test_silent(self):
        house = house_of([ROWS, Setting("note", "word")], TEXT, layers=2)
        found = fates(house, SlipRule("left", "doubled", "word"))
        both = [place for place in found.places() if "more" in found.of(place) or "less" in found.of(place)]
        self.assertEqual(found.silent("any"), both)
        self.assertEqual(found.silent("more"), [place for place in both if "more" in found.of(place)])
        every = house_of([ROWS], "if some @rows\n  or none\ntake")
        fewer = fates(every, SlipRule("left"))
        self.assertEqual(fewer.silent("any"), [("left", 0, "item", "rows")])
        self.assertEqual(fewer.silent("more"), [("left", 0, "item", "rows")])
        less = fates(house_of([ROWS], "if no some @rows\n  or none\ntake"), SlipRule("left"))
        self.assertEqual((less.silent("more"), less.silent("any")), ([], [("left", 0, "item", "rows")]))
        for goal in ("less", "", None, 3, ["any"]):
            with self.assertRaises(BadGoal) as caught:
                found.silent(goal)
            self.assertEqual(caught.exception.goal, goal)

    def test_errors(self):
        far = Language(equals="may", end="may", bare=True, doubled=(";",))
        rules = [SlipRule.every(), SlipRule("left", "sign"), SlipRule("sign")]
        told = [rule for rule in rules if reach(far, rule).word == "far"]
        self.assertTrue(told)
        for rule in told:
            for house in (house_of([ROWS], TEXT, language=far), many_house(far)):
                with self.assertRaises(FarReach) as caught:
                    fates(house, rule)
                wanted = reach(far, rule)
                self.assertEqual((caught.exception.file, caught.exception.slip), (wanted.file, wanted.slip))
        for rule in (SlipRule(), SlipRule("left")):
            with self.assertRaises(TooManyConducts) as caught:
                fates(many_house(), rule)
            self.assertEqual(caught.exception.most, 60)

    def test_returned_things_are_new(self):
        found = fates(house_of([ROWS], TEXT), SlipRule("left"))
        found.places().clear()
        found.page().clear()
        self.assertEqual(len(found.places()), len(found.page()), 7)
        place = ("left", 0, "item", "rows")
        found.example(place, "more").files[0].clear()
        found.example(place, "more").row.clear()
        self.assertIsNone(example_fault(found.house, found.rule, place, "more", found.example(place, "more")))


class Examples(unittest.TestCase):
    def test_attributes(self):
        files, row = [["a"], None], {"owner": "b"}
        example = Example(files, 0, Slip("left", 0), row)
        files[0].append("b")
        row.clear()
        self.assertEqual((example.files, example.layer, example.slip, example.row),
                         ([["a"], None], 0, Slip("left", 0), {"owner": "b"}))

    def test_faults(self):
        house = house_of([ROWS, Setting("note", "word")], TEXT, layers=2)
        rule = SlipRule("left")
        file, row = plain(house.language, [("rows", ("a",)), ("note", "b")]), {"owner": "b"}
        place, fate = ("left", 0, "item", "rows"), "more"
        good = Example([file, None], 0, Slip("left", 3), row)
        self.assertIsNone(example_fault(house, rule, place, fate, good))
        for files in ([file], [file, None, None], [["odd"], None], [None, ["rows", "=", "a", ";"]]):
            bad = Example(files, 7, Slip("left", 99), {"owner": "a"})
            self.assertEqual(example_fault(house, rule, ("odd",), "odd", bad), "files")
        for layer, slip in [(1, Slip("left", 3)), (2, Slip("left", 3)), (-1, Slip("left", 3)), (0, Slip("left", 10)),
                            (0, Slip("doubled", 3)), (0, Slip("written", 3, "b")), (0, Slip("swapped", 99))]:
            bad = Example([file, None], layer, slip, {"owner": "a"})
            self.assertEqual(example_fault(house, rule, ("odd",), "odd", bad), "slip")
        other = Example([file, None], 0, Slip("left", 8), row)
        self.assertEqual(example_fault(house, rule, place, "odd", other), "place")
        for wrong in [("left", 1, "item", "rows"), ("left", 0, "word", "rows"), ("left", 0, "item", "note")]:
            self.assertEqual(example_fault(house, rule, wrong, "odd", good), "place")
        for wrong in ("less", "same", "reader"):
            self.assertEqual(example_fault(house, rule, place, wrong, good), "fate")
        self.assertEqual(example_fault(house, rule, place, fate, Example([file, None], 0, Slip("left", 3),
                                                                        {"owner": "a"})), "fate")


if __name__ == "__main__":
    unittest.main()
