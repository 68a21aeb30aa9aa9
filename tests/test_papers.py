import itertools
import random
import unittest

from houses import OWNER, FileMaker, files_of, house_of, many_house, some_house, some_rule
from slipreach.errors import BadFiles, BadGuard, BadOld, FarReach, TooManyConducts
from slipreach.examples import example_fault
from slipreach.fates import Example, fates
from slipreach.guards import fits, guarded, is_strict
from slipreach.kinds import Setting
from slipreach.language import Language
from slipreach.oldfiles import kept_fault
from slipreach.papers import Paper, Study
from slipreach.playing import place_of, tried
from slipreach.rules import SlipRule
from slipreach.slips import Slip, trimmed
from slipreach.reader import read

ROWS = Setting("rows", "list")
TEXT = "for @rows\n  or owner is item\ntake"
LEFT = SlipRule("left")


def standard(language=None, settings=(ROWS,), layers=2, **rules):
    return house_of(list(settings), TEXT, OWNER, layers, language, **rules)


class Papers(unittest.TestCase):
    def test_words(self):
        house = standard()
        study = Study(house, LEFT, ["empty", ("filled", "rows")])
        self.assertEqual((study.house, study.rule, study.goal, study.pool),
                         (house, LEFT, "any", ("empty", ("filled", "rows"))))
        paper = study.paper([("filled", "rows")])
        self.assertEqual(type(paper), Paper)
        self.assertEqual((paper.word, paper.index, paper.file, paper.slip, paper.example),
                         ("good", None, None, None, None))
        silent = study.paper([])
        self.assertEqual((silent.word, silent.index, silent.file, silent.slip), ("silent", None, None, None))
        self.assertEqual(type(silent.example), Example)
        self.check_silent(house, LEFT, "any", silent.example)
        for guards, wanted in [([], False), (["empty"], False), ([("filled", "rows")], True),
                               ((("filled", "rows"), "empty"), False)]:
            self.assertIs(study.is_good(guards), wanted)
            self.assertEqual(study.paper(guards).word == "good", wanted)

    def check_silent(self, house, rule, goal, example):
        place = place_of(house, example.files, example.layer, example.slip)
        fates_told = ["more"] if goal == "more" else ["more", "less"]
        faults = [example_fault(house, rule, place, fate, example) for fate in fates_told]
        self.assertIn(None, faults)

    def test_the_example_of_the_document(self):
        """9.9: filled is heard, with empty beside it not, and with top beside both again."""
        study = Study(standard(), LEFT, [("filled", "rows"), "empty", ("top", "rows")])
        filled, empty, top = study.pool
        wanted = {(): False, (filled,): True, (empty,): False, (top,): False, (filled, empty): False,
                  (filled, top): True, (empty, top): True, (filled, empty, top): True}
        for guards in wanted:
            self.assertIs(study.is_good(guards), wanted[guards], guards)
        self.assertEqual(study.least_sets(), [(filled,), (empty, top)])
        self.assertEqual(study.good_sets(), [one for one in wanted if wanted[one]])
        self.assertEqual(study.spoiled(), [((filled,), empty)])
        self.assertEqual(study.turns(), (3, (filled, empty, top)))
        paper = study.paper((filled, empty))
        self.assertEqual(tried(guarded(study.house, (filled, empty)), paper.example.files)[1], None)

    def test_lost(self):
        kept, gone, worse = files_of("rows = [a];", None), files_of("rows = [];", None), files_of(None, "rows = [];")
        study = Study(standard(), LEFT, [("filled", "rows"), "empty"], olds=[kept, gone, worse])
        paper = study.paper([("filled", "rows")])
        self.assertEqual((paper.word, paper.index, paper.example, paper.file), ("lost", 1, None, None))
        self.assertEqual(study.paper([]).word, "silent")
        self.assertEqual(study.least_sets(), [])
        # A list of old files that is changed later on does not matter.
        gone[0].clear()
        self.assertEqual(study.paper([("filled", "rows")]).index, 1)

    def test_far(self):
        language = Language(equals="may", end="may", bare=True, doubled=(";",))
        rule = SlipRule("left", "sign")
        house = standard(language)
        with self.assertRaises(FarReach):
            fates(house, rule)
        paper = Study(house, rule, ["end", ("filled", "rows")]).paper([])
        self.assertEqual((paper.word, paper.index, paper.example), ("far", None, None))
        self.assertTrue(rule.allows(paper.file, paper.slip))
        rows = trimmed(read(language, paper.file), read(language, paper.slip(paper.file)))
        self.assertGreater(max(len(row) for row in rows), 2)
        olds = [files_of("rows = [];", None)]
        study = Study(house, rule, ["end", ("filled", "rows"), "bare"], olds=olds)
        self.assertEqual([study.paper(guards).word for guards in ([], [("filled", "rows")])], ["far", "lost"])

    def test_goals(self):
        text = "if no some @rows\n  or none\ntake"
        house = house_of([ROWS], text)
        self.assertEqual([Study(house, LEFT, [], goal=goal).paper(()).word for goal in ("any", "more")],
                         ["silent", "good"])
        other = Study(standard(), LEFT, [], goal="more")
        self.check_silent(other.house, LEFT, "more", other.paper([]).example)
        self.assertEqual(other.goal, "more")

    def test_errors(self):
        house = standard()
        bad, wrong = files_of("odd = 1;", None), files_of("rows = [a];")
        for pool, index in [(["odd"], 0), (["end", "end"], 1), (("end", ("filled", "odd"), "end"), 1),
                            (["end", ("some", "rows"), ("some", "rows"), 3], 2)]:
            for olds in ([], [bad]):
                with self.assertRaises(BadGuard) as caught:
                    Study(house, LEFT, pool, olds=olds)
                self.assertEqual(caught.exception.index, index)
        for olds, index in [([bad], 0), ((files_of(None, None), bad, wrong), 1)]:
            with self.assertRaises(BadOld) as caught:
                Study(house, LEFT, ["end"], olds=olds)
            self.assertEqual(caught.exception.index, index)
        with self.assertRaises(BadFiles):
            Study(house, LEFT, ["end"], olds=[wrong, bad])
        study = Study(house, LEFT, ["end", ("some", "rows")])
        for guards, index in [(["empty"], 0), (["end", "end"], 1), ((("some", "rows"), "end", 3), 2), ([None], 0),
                              (["end", ("some", "rows"), ("some", "rows")], 2)]:
            for call in (study.paper, study.is_good):
                for _ in range(2):
                    with self.assertRaises(BadGuard) as caught:
                        call(guards)
                    self.assertEqual(caught.exception.index, index)

    def test_too_many_conducts(self):
        study = Study(many_house(), LEFT, ["empty"])
        for call in (lambda: study.paper([]), lambda: study.is_good(["empty"]), study.least_sets, study.good_sets,
                     study.spoiled, study.turns):
            with self.assertRaises(TooManyConducts) as caught:
                call()
            self.assertEqual(caught.exception.most, 60)

    def test_random_studies(self):
        words = {"good": 0, "lost": 0, "far": 0, "silent": 0}
        for seed in range(60):
            chance = random.Random(seed)
            house, rule = some_house(chance, most=(2, 3)), some_rule(chance)
            pool = ["equals", "end", "comma", "single", "bare", "value", "doubled", "empty",
                    *[(word, name) for word in ("filled", "some", "top") for name in house.schema.names]]
            pool = chance.sample([guard for guard in pool if fits(house, guard)], 3)
            maker = FileMaker(chance, house, rule)
            olds = [files for files in [maker.files() for _ in range(4)] if tried(house, files)[0] is not None][:1]
            goal = chance.choice(["any", "more"])
            study = Study(house, rule, pool, olds=olds, goal=goal)
            for count in range(4):
                for guards in itertools.combinations(pool, count):
                    paper = study.paper(guards[::-1])
                    words[paper.word] += 1
                    strict = guarded(house, guards)
                    self.assertEqual(paper.index, kept_fault(house, strict, olds))
                    if paper.word == "silent":
                        self.check_silent(strict, rule, goal, paper.example)
                    elif paper.word == "far":
                        self.assertIsInstance(paper.slip, Slip)
                        self.assertTrue(rule.allows(paper.file, paper.slip))
                    elif paper.word == "good":
                        self.assertEqual(fates(strict, rule).silent(goal), [])
            self.check_strict(study, house, rule, goal)
        self.assertTrue(all(words.values()), words)

    def check_strict(self, study, house, rule, goal):
        """9.10: without old files a good set is good together with guards that are strict for its house."""
        free = Study(house, rule, study.pool, goal=goal)
        for guards in free.good_sets():
            rest = [guard for guard in free.pool if guard not in guards]
            strict = [guard for guard in rest if is_strict(guarded(house, guards), [guard])]
            for guard in strict:
                self.assertTrue(free.is_good([*guards, guard]))


if __name__ == "__main__":
    unittest.main()
