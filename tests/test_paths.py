import itertools
import random
import unittest

from samples import (settings_or_none, some_checks, some_direct_edition, some_edition, some_languages, some_row,
                     some_schema)
from slipreach.editions import Edition, reused
from slipreach.errors import BadPath, Reused, SettingsError
from slipreach.kinds import Setting
from slipreach.language import Language
from slipreach.layers import joined
from slipreach.leadover import lead
from slipreach.moves import Add, Drop, Preset, Rename, Split, Wrap
from slipreach.paths import Path, blurred_files, parting_files, still_fault
from slipreach.reader import read
from slipreach.schema import Schema
from slipreach.writer import plain

PLAIN = Language()
LANGUAGES = some_languages(60, 70)


def settings_of(language, schema, files):
    return settings_or_none(schema, [None if file is None else read(language, file) for file in files])


def some_path(chance, elder, most):
    rows = []
    for _ in range(chance.randint(1, most)):
        rows.append(some_edition(chance, rows[-1].later if rows else elder, 2))
    return Path(rows)


def some_takings(chance, language, schema, layers, count):
    """Rows of entries, one or None for each layer, that a schema takes."""
    found = []
    for _ in range(count):
        files = [None if chance.random() < 0.2 else some_row(chance, schema, 3,
                                                             language.nothing) for _ in range(layers)]
        if settings_or_none(schema, files) is not None:
            found.append(files)
    return found


def chain(*moves, elder=None):
    """A path with an edition for each list of moves."""
    rows = []
    for row in moves:
        rows.append(Edition(rows[-1].later if rows else elder, row))
    return Path(rows)


class Paths(unittest.TestCase):
    def setUp(self):
        self.elder = Schema([Setting("a", "word", default="d"), Setting("b", "number")])
        self.path = chain([Rename("a", "x")], [Wrap("x")], [Drop("b"), Preset("x", ("z",))], elder=self.elder)

    def test_parts(self):
        path = self.path
        self.assertEqual((path.elder, path.later), (self.elder, path.editions[-1].later))
        self.assertIsInstance(path.editions, tuple)
        self.assertEqual([edition.later.names for edition in path], [("x", "b"), ("x", "b"), ("x",)])
        self.assertEqual((len(path), list(path)), (3, list(path.editions)))
        self.assertEqual([path[at] for at in range(3)], list(path.editions))
        for at in (-1, 3, True, False, None, "0", 0.0, (0,)):
            with self.assertRaises(BadPath) as caught:
                path[at]
            self.assertIs(caught.exception.at, at)

    def test_bad_paths(self):
        rows = list(self.path)
        for editions, at in [([], 0), ((), 0), ([rows[0]] * 9, 8), ([rows[0], rows[0]], 1), ([rows[0], rows[2]], 1),
                             ([*rows, rows[0], rows[0]], 3), ([rows[1], rows[2], rows[1]], 2)]:
            with self.assertRaises(BadPath) as caught:
                Path(editions)
            self.assertEqual(caught.exception.at, at)
        same = Edition(self.elder, [])
        self.assertEqual(len(Path([same] * 8)), 8)
        for first, second, at in [(Path([same] * 5), Path([same] * 4), 8), (self.path, self.path, 3)]:
            with self.assertRaises(BadPath) as caught:
                first >> second
            self.assertEqual(caught.exception.at, at)

    def test_putting_behind(self):
        rows = list(self.path)
        both = Path(rows[:1]) >> Path(rows[1:])
        self.assertEqual(list(both), rows)
        self.assertEqual((both.elder, both.later), (self.elder, self.path.later))

    def test_moved_and_whole(self):
        self.assertEqual(self.path.moved({"a": "w", "b": 4}), {"x": ("w",)})
        self.assertEqual(self.path.moved({}), {"x": ("d",)})
        self.assertEqual(self.path.whole.moved({}), {"x": ("z",)})
        self.assertEqual((self.path.whole.source("x"), self.path.whole.is_wrapped("x")), ("a", True))
        chance = random.Random(71)
        for _ in range(200):
            elder = some_schema(chance)
            path = some_path(chance, elder, 4)
            whole, settings = path[0], joined_or_empty(chance, elder)
            moved = path[0].moved(settings)
            for edition in list(path)[1:]:
                whole, moved = whole >> edition, edition.moved(moved)
            self.assertEqual(path.whole, whole)
            before = dict(settings)
            self.assertEqual(path.moved(settings), moved)
            self.assertEqual(settings, before)

    def test_led(self):
        chance = random.Random(72)
        for language in LANGUAGES[:40]:
            elder = some_schema(chance)
            path = some_path(chance, elder, 4)
            for files in some_takings(chance, language, elder, 2, 8):
                files = [None if row is None else plain(language, row) for row in files]
                wanted = files
                for edition in path:
                    wanted = lead(language, edition, wanted).files
                led = path.led(language, files)
                self.assertEqual(led, wanted)
                self.assertEqual(settings_of(language, path.later, led),
                                 path.moved(settings_of(language, elder, files)))
        with self.assertRaises(SettingsError):
            self.path.led(PLAIN, [["a"]])


def joined_or_empty(chance, schema):
    try:
        return joined(schema, some_checks(chance, schema, 2))
    except SettingsError:
        return {}


class Parting(unittest.TestCase):
    def check(self, first, second, wanted, language=PLAIN, layers=1):
        files = parting_files(language, layers, first, second)
        self.assertEqual(files is not None, wanted)
        if wanted:
            self.assertEqual(len(files), layers)
            settings = settings_of(language, first.elder, files)
            self.assertIsNotNone(settings)
            self.assertNotEqual(first.moved(settings), second.moved(settings))

    def test_examples(self):
        elder = Schema([Setting("a", "word"), Setting("b", "word")])
        one = chain([Split("a", "c"), Drop("b")], elder=elder)
        other = chain([Split("b", "c"), Drop("b")], elder=elder)
        self.check(one, one, False)
        self.check(one, other, True, layers=3)
        through = chain([Preset("a", "d")], [Preset("a", None)], elder=elder)
        straight = chain([], [], elder=elder)
        self.check(through, straight, True, layers=2)
        self.check(chain([Preset("a", "d")], [Preset("a", "e")], elder=elder), chain([Preset("a", "e")], elder=elder),
                   True)
        given = Schema([Setting("a", "word", demand="some"), Setting("b", "word", default="p")])
        self.check(chain([Preset("b", "d")], [Preset("b", None)], elder=given), chain([Preset("b", None)], elder=given),
                   False)

    def test_a_choice_of_one_word(self):
        def schema(**parts):
            return Schema([Setting("a", "choice", words=("p",), **parts), Setting("b", "word")])

        def paths(elder):
            added = Setting("c", "choice", words=("p",), default="p")
            return (chain([Split("a", "c"), Drop("a"), *default], elder=elder),
                    chain([Drop("a"), Add(added)], elder=elder))
        default = []
        self.check(*paths(schema(default="p")), False)
        default = [Preset("c", "p")]
        self.check(*paths(schema()), False)
        through = chain([Split("a", "c"), Drop("a")], [Preset("c", "p")], elder=schema())
        self.check(through, paths(schema())[1], False)

    def test_paths_that_do_not_meet(self):
        elder = Schema([Setting("a", "word")])
        other = Schema([Setting("a", "number")])
        for first, second in [(chain([], elder=elder), chain([], elder=other)),
                              (chain([Preset("a", "d")], elder=elder),
                               chain([Preset("a", "d")], elder=Schema([Setting("a", "word", default="e")]))),
                              (chain([], elder=elder), chain([Wrap("a")], elder=elder))]:
            with self.assertRaises(BadPath) as caught:
                parting_files(PLAIN, 1, first, second)
            self.assertEqual(caught.exception.at, -1)

    def test_against_random_files(self):
        chance = random.Random(73)
        answers = []
        while len(answers) < 250:
            language, elder = chance.choice(LANGUAGES), some_schema(chance, chance.randint(1, 3))
            layers = chance.randint(1, 3)
            first, second = [self.path_between(chance, elder) for _ in range(2)]
            if first.later != second.later:
                later = Edition.direct(first.elder, first.later)
                second = Path([later])
            files = parting_files(language, layers, first, second)
            answers.append(files is not None)
            self.check(first, second, files is not None, language, layers)
            for rows in some_takings(chance, language, elder, layers, 60 if files is None else 0):
                settings = settings_or_none(elder, rows)
                self.assertEqual(first.moved(settings), second.moved(settings))
        self.assertGreater(min(answers.count(True), answers.count(False)), 8)

    def path_between(self, chance, elder):
        while True:
            path = some_path(chance, elder, 3)
            try:
                Edition.direct(path.elder, path.later)
                return path
            except SettingsError:
                continue


class Blurred(unittest.TestCase):
    def check(self, path, wanted, language=PLAIN, layers=1):
        found = blurred_files(language, layers, path)
        self.assertEqual(found is not None, wanted)
        if wanted:
            self.assertIsInstance(found, tuple)
            one, other = [settings_of(language, path.elder, files) for files in found]
            self.assertEqual([len(files) for files in found], [layers, layers])
            self.assertTrue(one is not None and other is not None and one != other)
            self.assertEqual(path.moved(one), path.moved(other))

    def test_dropped_settings(self):
        beside = Setting("b", "word")
        for setting, wanted in [(Setting("a", "word"), True), (Setting("a", "number", demand="top"), True),
                                (Setting("a", "list", filled=True), True),
                                (Setting("a", "choice", words=("p",)), True),
                                (Setting("a", "choice", words=("p",), default="p"), False),
                                (Setting("a", "choice", words=("p",), demand="some"), False),
                                (Setting("a", "choice", words=("p", "q"), demand="top"), True)]:
            for layers in (1, 2, 3):
                self.check(chain([Drop("a")], elder=Schema([setting, beside])), wanted, layers=layers)

    def test_absent_settings(self):
        for setting, moves, wanted in [
                (Setting("a", "word"), [[Preset("a", "d")]], True), (Setting("a", "word"), [[Rename("a", "x")]], False),
                (Setting("a", "word", demand="some"), [[Rename("a", "x")]], False),
                (Setting("a", "word", default="e"), [[Preset("a", "d")]], False),
                (Setting("a", "word"), [[Preset("a", "d")], [Wrap("a")]], True),
                (Setting("a", "word"), [[Wrap("a")], [Preset("a", ("d",))]], True),
                (Setting("a", "word"), [[Wrap("a")], [Preset("a", ("d", "e"))]], False),
                (Setting("a", "word"), [[Wrap("a")], [Preset("a", ())]], False),
                (Setting("a", "choice", words=("p",)), [[Wrap("a")], [Preset("a", ("d",))]], False),
                (Setting("a", "choice", words=("d",)), [[Wrap("a")], [Preset("a", ("d",))]], True),
                (Setting("a", "number"), [[Preset("a", 77)]], True),
                (Setting("a", "word"), [[Preset("a", "d"), Split("a", "b")]], True),
                (Setting("a", "word"), [[Split("a", "b"), Preset("a", "d")]], False),
                (Setting("a", "word"), [[Split("a", "b"), Preset("a", "d"), Preset("b", "e")]], False),
                (Setting("a", "word"), [[Split("a", "b"), Preset("a", "d"), Wrap("b"), Preset("b", ("d",))]], True)]:
            self.check(chain(*moves, elder=Schema([setting])), wanted)

    def test_empty_lists(self):
        for setting, empty, wanted in [(Setting("a", "list"), "given", True), (Setting("a", "list"), "lacks", False),
                                       (Setting("a", "list", filled=True), "given", False),
                                       (Setting("a", "list", join=True), "given", True)]:
            self.check(chain([Preset("a", ())], elder=Schema([setting], empty=empty)), wanted)
        long = ("k", "l", "m", "n", "k", "l", "m", "n")
        self.check(chain([Preset("a", long)], elder=Schema([Setting("a", "list", filled=True)], empty="lacks")), True)

    def test_against_random_files(self):
        chance = random.Random(74)
        answers = []
        for _ in range(200):
            language, elder = chance.choice(LANGUAGES), some_schema(chance)
            layers, path = chance.randint(1, 3), some_path(chance, elder, 3)
            found = blurred_files(language, layers, path)
            answers.append(found is not None)
            self.check(path, found is not None, language, layers)
            seen = [settings_or_none(elder, rows) for rows in some_takings(chance, language, elder, layers,
                                                                           60 if found is None else 0)]
            for one, other in itertools.combinations(seen, 2):
                self.assertTrue(one == other or path.moved(one) != path.moved(other))
        self.assertGreater(min(answers.count(True), answers.count(False)), 10)


class StillFault(unittest.TestCase):
    def check(self, edition, wanted, language=PLAIN, layers=1):
        files = still_fault(language, layers, edition)
        self.assertEqual(files is not None, wanted)
        if wanted:
            self.assertEqual(len(files), layers)
            settings = settings_of(language, edition.elder, files)
            self.assertIsNotNone(settings)
            self.assertNotEqual(settings_of(language, edition.later, files), edition.moved(settings))

    def check_moves(self, settings, moves, wanted, **rules):
        edition = Edition(Schema(settings, **rules), moves)
        for layers in (1, 2, 3):
            self.check(edition, wanted, layers=layers)
        self.check(edition, wanted, Language(nothing=True, bare=True, end="may"))

    def test_moves(self):
        word, one = Setting("a", "word"), Setting("a", "choice", words=("p",))
        for unknown in ("refuse", "pass"):
            self.check_moves([word], [], False, unknown=unknown)
            self.check_moves([word], [Preset("a", "d")], False, unknown=unknown)
            self.check_moves([word.changed(default="d")], [Preset("a", None)], True, unknown=unknown)
            self.check_moves([word], [Rename("a", "b", kept=False)], True, unknown=unknown)
            self.check_moves([word], [Wrap("a")], True, unknown=unknown)
        self.check_moves([word], [Rename("a", "b")], False)
        self.check_moves([word], [Rename("a", "b")], True, unknown="pass")
        self.check_moves([word], [Split("a", "b")], True)
        self.check_moves([one], [Split("a", "b"), Preset("b", "p")], False)
        self.check_moves([one.changed(default="p")], [Split("a", "b")], False)
        self.check_moves([one.changed(default="p")], [Split("a", "b")], True, unknown="pass")
        self.check_moves([word], [Add(Setting("b", "word", default="p"))], False)
        self.check_moves([word], [Add(Setting("b", "word"))], True, unknown="pass")
        self.check_moves([word, Setting("b", "word")], [Drop("b")], True)
        self.check_moves([word, Setting("b", "word")], [Drop("b")], False, unknown="pass")

    def test_words_that_are_passed_over_at_first(self):
        added = Add(Setting("b", "choice", words=("p",), default="p"))
        for wrong, doubled, wanted in [("refuse", "last", True), ("lack", "refuse", True), ("lack", "last", False),
                                       ("lack", "first", False), ("lack", "join", False)]:
            rules = {"unknown": "pass", "wrong": wrong, "doubled": doubled}
            self.check_moves([Setting("a", "word")], [added], wanted, **rules)
            only = Setting("a", "choice", words=("p",), default="p")
            self.check_moves([only], [Rename("a", "b")], wanted, **rules)
            demanded = Setting("a", "choice", words=("p",), demand="some")
            self.check_moves([demanded], [Rename("a", "b")], True, **rules)

    def test_wrapped(self):
        one = Setting("a", "choice", words=("p",))
        for wrong in ("refuse", "lack"):
            for setting in (one, one.changed(default="p"), one.changed(demand="top")):
                self.check_moves([setting], [Wrap("a")], True, wrong=wrong)
        dropped = [Rename("a", "b", kept=False), Wrap("b"), Preset("b", ("p",))]
        self.check_moves([one], dropped, True, wrong="lack")
        self.check_moves([one, Setting("c", "word", default="d")], [*dropped, Preset("b", ("q",))], True,
                         unknown="pass")

    def test_a_wrapped_setting_whose_words_are_lost(self):
        one = Setting("a", "choice", words=("p",), elders=("o",))
        elder = Schema([one], unknown="pass", wrong="lack", doubled="last")
        for default, wanted in [(("p",), True), (("q",), True)]:
            self.check(Edition(elder, [Rename("a", "b", kept=False), Wrap("b"), Preset("b", default)]), wanted)

    def test_a_word_that_is_lost_beside_one_of_another_target(self):
        parts = {"words": ("p",), "default": "p"}
        elder = Schema([Setting("a", "choice", elders=("b", "o"), **parts)])
        for elders, wanted in [((), True), (("o",), False)]:
            later = Schema([Setting("a", "choice", **parts), Setting("b", "choice", elders=elders, **parts)])
            self.check(Edition.direct(elder, later), wanted)

    def test_reused_words(self):
        elder = Schema([Setting("a", "word"), Setting("b", "number")])
        later = Schema([Setting("b", "word"), Setting("a", "number")])
        with self.assertRaises(Reused) as caught:
            still_fault(PLAIN, 1, Edition.direct(elder, later))
        self.assertEqual(caught.exception.word, "a")

    def test_against_random_files(self):
        chance = random.Random(75)
        answers = []
        while len(answers) < 300:
            language, elder = chance.choice(LANGUAGES), some_schema(chance)
            if chance.random() < 0.7:
                edition = some_edition(chance, elder, 2)
            else:
                edition = some_direct_edition(chance, elder)
                if reused(edition):
                    continue
            layers = chance.randint(1, 3)
            found = still_fault(language, layers, edition)
            answers.append(found is not None)
            self.check(edition, found is not None, language, layers)
            if found is None:
                self.check_no_fault(chance, language, edition, layers)
        self.assertGreater(min(answers.count(True), answers.count(False)), 50)

    def check_no_fault(self, chance, language, edition, layers):
        both = [edition.elder, edition.later]
        words = [word for schema in both for setting in schema for word in (setting.name, *setting.elders)]
        values = ["p", "q", "yes", 0, 7, (), ("p",), ("q", "p")] + [None] * language.nothing
        for _ in range(60):
            files = [[(chance.choice(words), chance.choice(values)) for _ in range(chance.randint(0, 4))]
                     for _ in range(layers)]
            settings = settings_or_none(edition.elder, files)
            if settings is not None:
                self.assertEqual(settings_or_none(edition.later, files), edition.moved(settings))


if __name__ == "__main__":
    unittest.main()
