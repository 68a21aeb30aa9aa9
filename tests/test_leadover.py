import random
import unittest

from samples import settings_or_none, some_direct_edition, some_edition, some_file, some_languages, some_schema
from slipreach.editions import Edition
from slipreach.errors import (DoubledName, EmptyList, Lacking, SettingsError, TopLacking, UnknownName, Unreadable,
                              WrongKind)
from slipreach.kinds import Setting
from slipreach.language import Language
from slipreach.layers import joined
from slipreach.checking import checked
from slipreach.leadover import lead
from slipreach.moves import Add, Drop, Preset, Rename, Split, Wrap
from slipreach.reader import read, spans
from slipreach.schema import Schema
from slipreach.tokens import text_of, tokens
from slipreach.whys import why
from slipreach.writer import plain


def led_texts(language, edition, *texts):
    found = lead(language, edition, [None if text is None else tokens(text) for text in texts])
    return [None if file is None else text_of(file) for file in found.files]


def some_language_file(chance, language, schema, most):
    """A readable file, in any style, with the words of a schema as names."""
    names = [word for setting in schema for word in (setting.name, *setting.elders)] + ["odd", "k", "m"]
    file, state = [], "start"
    for token in some_file(chance, language, chance.randint(0, most)):
        sort = "word" if token.isalpha() else "number" if token.isdigit() else token
        if sort == "word":
            token = chance.choice(names) if language.step(state, sort) == "name" else chance.choice(["p", "q", "yes"])
        file.append(token)
        state = language.step(state, sort)
    return file


def led_by_hand(edition, checks, written):
    """For each layer and each of its entries the list of entries that it becomes."""
    elder, later, layers = edition.elder, edition.later, []
    for check in checks:
        rows = []
        for at, (word, value) in enumerate(() if check is None else check.entries):
            name = elder.called(word)
            if name is None:
                rows.append([] if later.called(word) else [(word, value)])
                continue
            news = []
            for target in later.names:
                if edition.source(target) != name or target in written:
                    continue
                worth = value
                if edition.is_wrapped(target):
                    if elder.doubled == "join" and at != max(check.entries_of(name)):
                        continue
                    if isinstance(value, str) and elder.fits(name, value):
                        worth = (value,)
                    elif isinstance(value, tuple):
                        worth = 0
                news.append((word if later.called(word) == target else target, worth))
            rows.append(news)
        layers.append(rows)
    return layers


class AnyFiles(unittest.TestCase):
    def some_cases(self, count, seed):
        chance = random.Random(seed)
        languages = some_languages(60, seed)
        while count > 0:
            language, elder = chance.choice(languages), some_schema(chance)
            edition = some_edition(chance, elder, 5) if chance.random() < 0.7 else some_direct_edition(chance, elder)
            if chance.random() < 0.2:
                edition = edition >> some_edition(chance, edition.later, 3)
            files = [None if chance.random() < 0.2 else some_language_file(chance, language, elder, 14)
                     for _ in range(chance.randint(1, 3))]
            if settings_or_none(elder, [None if file is None else read(language, file) for file in files]) is None:
                continue
            count -= 1
            yield language, edition, files

    def test_settings_traces_and_written(self):
        many_written = many_copies = 0
        for language, edition, files in self.some_cases(1500, 61):
            checks = [None if file is None else checked(edition.elder, read(language, file)) for file in files]
            before = [None if file is None else list(file) for file in files]
            found = lead(language, edition, files)
            self.assertEqual(files, before)
            rows = [None if file is None else read(language, file) for file in found.files]
            self.assertEqual(settings_or_none(edition.later, rows), edition.moved(joined(edition.elder, checks)))
            written = []
            for setting in edition.later:
                source = edition.source(setting.name)
                if source is not None and why(edition.elder, checks, source) == ("default",):
                    default = edition.elder.setting(source).default
                    default = (default,) if edition.is_wrapped(setting.name) else default
                    if default != setting.default:
                        written.append((setting.name, default))
            self.assertEqual(found.written, tuple(name for name, _ in written))
            many_written += len(written) > 0
            for layer, wanted in enumerate(led_by_hand(edition, checks, found.written)):
                behind = written if layer == 0 else []
                if checks[layer] is None:
                    self.assertIsNone(found.traces[layer])
                    self.assertEqual(rows[layer], behind or None)
                    continue
                self.assertEqual(rows[layer], [entry for news in wanted for entry in news] + behind)
                numbers = iter(range(len(rows[layer])))
                self.assertEqual(found.traces[layer], [tuple(next(numbers) for _ in news) for news in wanted])
                many_copies += max([len(news) for news in wanted], default=0) > 1
        self.assertGreater(many_written, 40)
        self.assertGreater(many_copies, 50)

    def test_tokens_of_the_parts(self):
        for language, edition, files in self.some_cases(500, 62):
            found = lead(language, edition, files)
            for file, led, trace in zip(files, found.files, found.traces):
                if file is None:
                    continue
                parts, news = spans(language, file), spans(language, led)
                for (first, behind), numbers in zip(parts, trace):
                    tail = [token for token in file[first:behind] if token == ";"]
                    core = file[first:behind - len(tail)]
                    for number in numbers:
                        part = led[news[number][0]:news[number][1]]
                        wanted = tail if number == numbers[-1] else [";"]
                        is_before_written = number == len(news) - 1 - len(found.written)
                        if found.files.index(led) == 0 and found.written and not wanted and is_before_written:
                            wanted = [";"]
                        self.assertEqual(part[len(part) - len(wanted):], wanted)
                        self.assertNotEqual(part[len(part) - len(wanted) - 1], ";")
                        if read(language, file)[parts.index((first, behind))][1] == read(language, led)[number][1]:
                            self.assertEqual(part[1:len(part) - len(wanted)], core[1:])

    def test_without_moves_nothing_changes(self):
        chance = random.Random(63)
        for language, edition, files in self.some_cases(200, 63):
            found = lead(language, Edition(edition.elder, []), files)
            self.assertEqual((found.files, found.written), (files, ()))


class Tokens(unittest.TestCase):
    def setUp(self):
        self.elder = Schema([Setting("a", "word", elders=("o",)), Setting("b", "choice", words=("p", "q")),
                             Setting("c", "number")], unknown="pass", doubled="last", wrong="lack")
        self.language = Language(equals="may", end="may", bare=True, nothing=True, comma="may", last="may",
                                 doubled=(";", "=", ","))

    def test_entries_that_fall_and_stay(self):
        edition = Edition(self.elder, [Drop("b"), Add(Setting("n", "word", elders=("m",)))])
        texts = led_texts(self.language, edition, "a = x ; ; n 3 b = q ; m = ; odd [ p ] ; c 5", "b p ; b", None)
        self.assertEqual(texts, ["a = x ; ; odd [ p ] ; c 5", "", None])
        found = lead(self.language, edition, [tokens("a = x ; n 3 b q odd ; c 5")])
        self.assertEqual(found.traces, [[(0,), (), (), (1,), (2,)]])
        self.assertEqual((found.files, found.written), ([tokens("a = x ; odd ; c 5")], ()))

    def test_names_and_copies(self):
        edition = Edition(self.elder, [Drop("b"), Rename("a", "x"), Split("x", "y"), Split("x", "z"),
                                       Rename("c", "d", kept=False)])
        texts = led_texts(self.language, edition, "a = = w ; ; o v c 4 ; a ; ; ;")
        self.assertEqual(texts, ["a = = w ; y = = w ; z = = w ; ; o v ; y v ; z v d 4 ; a ; y ; z ; ; ;"])
        self.assertEqual(led_texts(self.language, edition, "o = ; a ="), ["o = ; y = ; z = ; a = ; y = ; z ="])
        lost = Edition(self.elder, [Rename("a", "x", kept=False)])
        self.assertEqual(led_texts(self.language, lost, "a [ x ] o 3"), ["x [ x ] o 3"])

    def test_wrapped_words(self):
        wrap = Edition(self.elder, [Wrap("a"), Wrap("b"), Rename("b", "l")])
        for text, led in [("a = w", "a = [ w ]"), ("a w ; ;", "a [ w ] ; ;"), ("a", "a = [ yes ]"),
                          ("a ; b", "a = [ yes ] ; b"), ("b = = p", "b = = [ p ]"), ("b z ; b q", "b z ; b [ q ]"),
                          ("a = ; b =", "a = ; b ="), ("a 5 b = 7", "a 5 b = 7"),
                          ("a [ ] b = [ p , , q , ] ;", "a 0 b = 0 ;"),
                          ("a = [ x y ]", "a = 0")]:
            self.assertEqual(led_texts(self.language, wrap, text), [led])
            must = self.language.with_options(last="must")
            if "," not in text and "[ x" not in text:
                self.assertEqual(led_texts(must, wrap, text), [led.replace("w ]", "w , ]").replace("yes ]", "yes , ]")
                                                               .replace("p ]", "p , ]").replace("q ]", "q , ]")])

    def test_a_wrapped_name_alone_behind_others(self):
        language = Language(end="may", bare=True)
        wrap = Edition(self.elder, [Wrap("a"), Split("a", "k")])
        self.assertEqual(led_texts(language, wrap, "a c = 1 a"),
                         ["a = [ yes ] ; k = [ yes ] c = 1 a = [ yes ] ; k = [ yes ]"])
        choice = Edition(self.elder.with_setting(Setting("b", "choice", words=("yes",))), [Wrap("b")])
        self.assertEqual(led_texts(language, choice, "b b = no"), ["b = [ yes ] b = no"])

    def test_joined_doubles(self):
        join = self.elder.with_rules(doubled="join")
        edition = Edition(join, [Split("a", "k"), Wrap("a")])
        self.assertEqual(led_texts(self.language, edition, "a x ; o y ; c 3 ; a 5 ; c 4"),
                         ["k x ; k y ; c 3 ; a 5 ; k 5 ; c 4"])
        self.assertEqual(led_texts(self.language, edition, "a x ; o y ; ; c 3"), ["k x ; o [ y ] ; k y ; ; c 3"])
        found = lead(self.language, edition, [tokens("a x a y"), None, tokens("a z")])
        self.assertEqual(found.traces, [[(0,), (1, 2)], None, [(0, 1)]])
        only = Edition(join, [Wrap("a")])
        self.assertEqual(led_texts(self.language, only, "a x ; c 1 a y"), ["c 1 a [ y ]"])

    def test_old_defaults(self):
        elder = Schema([Setting("a", "word", default="d"), Setting("b", "number", default=4, elders=("o",))])
        edition = Edition(elder, [Preset("a", "e"), Split("a", "k"), Wrap("k"), Preset("b", None), Rename("b", "n")])
        language = Language(end="between", last="must", nothing=True)
        self.assertEqual(led_texts(language, edition, None), ["a = d ; n = 4 ; k = [ d , ] ;"])
        self.assertEqual(led_texts(language, edition, ""), ["a = d ; n = 4 ; k = [ d , ] ;"])
        self.assertEqual(led_texts(language, edition, "b = 3", None), ["b = 3 ; a = d ; k = [ d , ] ;", None])
        self.assertEqual(led_texts(language, edition, "b = 3 ;", "o = 2"), ["b = 3 ; a = d ; k = [ d , ] ;", "o = 2"])
        self.assertEqual(led_texts(language, edition, None, "a = x ; b ="), ["n = 4 ;", "a = x ; k = [ x , ] ;"])
        self.assertEqual(led_texts(language, edition, "a = x ; b = 1", "a = ;"),
                         ["b = 1 ; a = d ; k = [ d , ] ;", ""])
        found = lead(language, edition, [None, tokens("a = ; b = 5")])
        self.assertEqual((found.written, found.traces), (("a", "k"), [None, [(), (0,)]]))
        same = Edition(elder, [Wrap("a"), Preset("b", 5), Preset("b", 4)])
        self.assertEqual(led_texts(language, same, None, "b ="), [None, "b ="])

    def test_the_written_down_is_plain(self):
        elder = Schema([Setting("a", "list", default=("p", "q")), Setting("b", "word")], doubled="first")
        edition = Edition(elder, [Preset("a", ())])
        for last, text in (("never", "a = [ p , q ] ;"), ("must", "a = [ p , q , ] ;")):
            language = Language(end="may", bare=True, equals="may", comma="may", last=last)
            self.assertEqual(led_texts(language, edition, "b"), ["b ; " + text])


class Errors(unittest.TestCase):
    def test_the_first_error(self):
        language = Language()
        elder = Schema([Setting("a", "word", demand="top"), Setting("b", "list", filled=True),
                        Setting("c", "word", demand="some")])
        edition = Edition(elder, [])
        good = "a = x ; b = [ p ] ; c = y ;"
        for texts, error in [(["odd = 1 ;", "a = "], Unreadable), (["a = 1 ;", "odd = 2 ;"], WrongKind),
                             (["a = x ; a = y ;", None], DoubledName), ([None, "odd = 2 ;"], UnknownName),
                             ([good, "b = [ ] ;"], TopLacking), ([None, "a = x ; b = [ ] ;"], EmptyList),
                             ([None, "a = x ;"], Lacking)]:
            with self.assertRaises(error):
                led_texts(language, edition, *texts)
        self.assertEqual(led_texts(language, edition, None, good), [None, good])
        with self.assertRaises(Unreadable) as caught:
            lead(language, edition, [["a", "="], ["a"]])
        self.assertEqual((caught.exception.at, caught.exception.awaited), (2, ("word", "number", "[")))

    def test_it_takes_lists_and_tuples(self):
        edition = Edition(Schema([Setting("a", "word")]), [Preset("a", "d")])
        for files in ([["a", "=", "x", ";"], None], (("a", "=", "x", ";"), None)):
            found = lead(Language(), edition, files)
            self.assertEqual(found.files, [["a", "=", "x", ";"], None])
            self.assertEqual((found.written, found.traces), ((), [[(0,)], None]))


if __name__ == "__main__":
    unittest.main()
