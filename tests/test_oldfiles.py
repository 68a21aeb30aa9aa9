import random
import unittest

from houses import OWNER, FileMaker, files_of, house_of, some_house, some_like, some_rule
from slipreach.conditions import parting
from slipreach.errors import BadFiles, BadOld, BadPair
from slipreach.kinds import Setting
from slipreach.oldfiles import kept_fault, lost, replay
from slipreach.playing import tried
from slipreach.rowkinds import Table

ROWS = Setting("rows", "list", join=True)
NOTE = Setting("note", "word")
TEXT = "for @rows\n  or owner is item\nif @note is 'odd'\n  refuse\ntake"


def standard(settings=(ROWS, NOTE), text=TEXT, layers=2, **more):
    return house_of(list(settings), text, layers=layers, **more)


def told(found):
    return (found.word, found.stage, found.error, found.more, found.less, found.is_same)


class Replays(unittest.TestCase):
    def test_kept(self):
        house = standard()
        files = files_of("rows = [a];", "rows = [b]; note = x;")
        self.assertEqual(told(replay(house, house, files)), ("kept", None, None, None, None, True))
        # The settings may differ as long as the same rows are taken.
        other = standard((ROWS, NOTE.changed(default="zz")))
        self.assertEqual(told(replay(house, other, files)), ("kept", None, None, None, None, True))
        self.assertEqual(told(replay(house, other, [None, None])), ("kept", None, None, None, None, False))

    def test_refused(self):
        house = standard(doubled="last")
        for other, text, stage, error in [
                (standard(), "note = x; note = y;", "schema", "DoubledName"),
                (standard((ROWS,), "take"), "note = x;", "schema", "UnknownName"),
                (standard((ROWS, NOTE.changed(demand="top"))), "note = x;", "joining", "TopLacking"),
                (standard((ROWS, NOTE), "if @note is 'x'\n  refuse\ntake"), "note = x;", "builder", "Refused")]:
            found = replay(house, other, files_of(text, None))
            self.assertEqual(told(found), ("refused", stage, error, None, None, False))
        strict = standard(language=house.language.with_options(end="between", bare=True))
        self.assertEqual(told(replay(strict, house, files_of("note", None)))[:3], ("refused", "reader", "Unreadable"))

    def test_changed(self):
        house, other = standard(), standard((ROWS.changed(join=False), NOTE))
        files = files_of("rows = [a];", "rows = [b];")
        found = replay(house, other, files)
        self.assertEqual(told(found), ("changed", None, None, None, {"owner": "a"}, False))
        found = replay(other, house, files)
        self.assertEqual(told(found), ("changed", None, None, {"owner": "a"}, None, False))
        text = "for @rows\n  or owner is item\nnot\ntake"
        found = replay(house, standard((ROWS, NOTE), text), files)
        self.assertEqual((found.word, found.is_same), ("changed", True))
        self.assertNotIn(found.more["owner"], ("a", "b"))
        self.assertIn(found.less["owner"], ("a", "b"))

    def test_errors_in_their_order(self):
        house = standard()
        table = house_of([ROWS], "take", Table(["maker"]), layers=2)
        both = house_of([ROWS], "take", Table(["maker"]))
        bad, wrong = files_of("odd = 1;", None), files_of("rows = [a];")
        for other, what in [(both, "layers"), (standard(layers=1), "layers"), (table, "table")]:
            for files in (bad, wrong, files_of(None, None)):
                with self.assertRaises(BadPair) as caught:
                    replay(house, other, files)
                self.assertEqual(caught.exception.what, what)
            for call in (lost, kept_fault):
                for olds in ([], [bad], (wrong,)):
                    with self.assertRaises(BadPair) as caught:
                        call(house, other, olds)
                    self.assertEqual(caught.exception.what, what)
        with self.assertRaises(BadOld) as caught:
            replay(house, house, bad)
        self.assertEqual(caught.exception.index, 0)
        with self.assertRaises(BadFiles) as caught:
            replay(house, house, wrong)
        self.assertEqual(caught.exception.count, 1)

    def test_several_old_files(self):
        house, other = standard(), standard((ROWS.changed(join=False), NOTE))
        kept, gone = files_of("rows = [a];", None), files_of("rows = [a];", "rows = [b];")
        bad, wrong = files_of("odd = 1;", None), files_of("rows = [a];")
        for olds, indexes in [([], []), ([kept], []), ([gone], [0]), ((kept, gone, kept, gone), [1, 3])]:
            self.assertEqual(lost(house, other, olds), indexes)
            self.assertEqual(kept_fault(house, other, olds), indexes[0] if indexes else None)
        for call in (lost, kept_fault):
            with self.assertRaises(BadOld) as caught:
                call(house, other, [kept, gone, bad, bad])
            self.assertEqual(caught.exception.index, 2)
            with self.assertRaises(BadOld):
                call(house, other, [gone, bad, wrong])
            with self.assertRaises(BadFiles):
                call(house, other, [gone, wrong, bad])

    def test_random_houses(self):
        words = {"kept": 0, "refused": 0, "changed": 0}
        for seed in range(150):
            chance = random.Random(seed)
            house = some_house(chance)
            other, maker = some_like(chance, house), FileMaker(chance, house, some_rule(chance))
            for _ in range(15):
                files = maker.files()
                plan, (later, stage, error) = tried(house, files)[0], tried(other, files)
                if plan is None:
                    with self.assertRaises(BadOld):
                        replay(house, other, files)
                    continue
                found = replay(house, other, files)
                words[found.word] += 1
                self.assertEqual((found.stage, found.error), (stage, error))
                if later is None:
                    self.assertEqual((found.word, found.is_same), ("refused", False))
                    continue
                rows = parting(plan.condition, later.condition)
                self.assertEqual(found.word, "kept" if rows == (None, None) else "changed")
                self.assertEqual(found.is_same, plan.settings == later.settings)
                for row, is_more in ((found.more, True), (found.less, False)):
                    if row is not None:
                        self.assertEqual((plan.condition.takes(row), later.condition.takes(row)),
                                         (not is_more, is_more))
        self.assertTrue(all(words.values()), words)


if __name__ == "__main__":
    unittest.main()
