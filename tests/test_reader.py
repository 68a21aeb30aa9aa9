import random
import unittest

from samples import NUMERALS, SIGNS, WORDS, all_files, some_file, some_languages
from slipreach.errors import Unreadable
from slipreach.language import Language
from slipreach.reader import read, roles, spans, states
from slipreach.tokens import tokens

LOOSE = Language(equals="may", end="may", comma="joins", last="may", doubled="=;,".replace("", " ").split(),
                 bare=True, nothing=True)


def refused(language, file):
    found = []
    for function in (states, read, spans, roles):
        try:
            function(language, file)
            found.append(None)
        except Unreadable as error:
            found.append((error.at, error.awaited))
    assert found.count(found[0]) == 4
    return found[0]


class Entries(unittest.TestCase):
    def check(self, text, entries, **options):
        language = Language(**options)
        file = tokens(text)
        self.assertEqual(read(language, file), entries)
        self.assertEqual(read(language, tuple(file)), entries)

    def test_all_kinds_of_values(self):
        self.check("", [])
        self.check("a = b ;", [("a", "b")])
        self.check("a = 12 ; a = 0 ;", [("a", 12), ("a", 0)])
        self.check("a = [ ] ;", [("a", ())])
        self.check("a = [ b , c , b ] ;", [("a", ("b", "c", "b"))])
        self.check("a = 999999999999 ;", [("a", 999999999999)])
        self.check("a = yes ;", [("a", "yes")])

    def test_equals(self):
        self.check("a b ; c 1 ; d [ e ] ; f = g ;", [("a", "b"), ("c", 1), ("d", ("e",)), ("f", "g")], equals="may")
        self.check("a = = b ;", [("a", "b")], doubled=["="])

    def test_end(self):
        self.check("a = b ; c = d", [("a", "b"), ("c", "d")], end="between")
        self.check("a = b c = 1 d = [ ] ; e = f", [("a", "b"), ("c", 1), ("d", ()), ("e", "f")], end="may")
        self.check("a = b ; ; ; c = d ; ;", [("a", "b"), ("c", "d")], doubled=(";",))

    def test_comma(self):
        self.check("a = [ b c , d ] ;", [("a", ("b", "c", "d"))], comma="may")
        self.check("a = [ b c , d , e f ] ;", [("a", ("b c", "d", "e f"))], comma="joins")
        self.check("a = [ b , ] ;", [("a", ("b",))], last="may")
        self.check("a = [ b , c , ] ; a = [ ] ;", [("a", ("b", "c")), ("a", ())], last="must")
        self.check("a = [ b , , c ] ;", [("a", ("b", "c"))], doubled=(",",))
        self.check("a = [ b , , ] ;", [("a", ("b",))], doubled=(",",), last="must")
        self.check("a = [ b c , ] ;", [("a", ("b c",))], comma="joins", last="must")

    def test_bare(self):
        self.check("a ; b = c ;", [("a", "yes"), ("b", "c")], bare=True)
        self.check("a b c = d e", [("a", "yes"), ("b", "yes"), ("c", "d"), ("e", "yes")], bare=True, end="may")
        self.check("a b c", [("a", "b"), ("c", "yes")], bare=True, end="may", equals="may")
        self.check("a ; b", [("a", "yes"), ("b", "yes")], bare=True, end="between")

    def test_nothing(self):
        self.check("a = ; b = c ;", [("a", None), ("b", "c")], nothing=True)
        self.check("a = = ; b =", [("a", None), ("b", None)], nothing=True, end="may", doubled=("=",))

    def test_what_is_told_is_new(self):
        file = ["a", "=", "b", ";"]
        for function in (states, read, spans, roles):
            first = function(LOOSE, file)
            second = function(LOOSE, file)
            first.clear()
            self.assertEqual(second, function(LOOSE, file))
        self.assertEqual(file, ["a", "=", "b", ";"])


class Refusals(unittest.TestCase):
    def test_first_wrong_token(self):
        self.assertEqual(refused(Language(), tokens("a = b ; = c")), (4, ("word", "end")))
        self.assertEqual(refused(Language(), tokens("= a")), (0, ("word", "end")))
        self.assertEqual(refused(Language(), tokens("a b")), (1, ("=",)))
        self.assertEqual(refused(Language(), tokens("a = ;")), (2, ("word", "number", "[")))
        self.assertEqual(refused(Language(), tokens("a = [ , ] ;")), (3, ("word", "]")))
        self.assertEqual(refused(Language(), tokens("a = [ b c ]")), (4, (",", "]")))
        self.assertEqual(refused(Language(), tokens("a = [ b , ]")), (5, ("word",)))
        self.assertEqual(refused(Language(last="must"), tokens("a = [ b ]")), (4, (",",)))
        self.assertEqual(refused(Language(comma="joins"), tokens("a = [ b c d ]")), (5, (",", "]")))
        self.assertEqual(refused(Language(equals="may", bare=True), tokens("a ]")),
                         (1, ("word", "number", "=", ";", "[")))
        self.assertEqual(refused(LOOSE, tokens("a = b =")), (3, ("word", ";", "end")))
        self.assertEqual(refused(LOOSE, tokens("a = 1 2")), (3, ("word", ";", "end")))

    def test_objects_that_are_no_tokens(self):
        for thing in [None, 1, True, "B", "a1", "", "a b", ["a"], ("a",), b"a", "l" * 13, object()]:
            self.assertEqual(refused(Language(), ["a", "=", thing, "="]), (2, ("word", "number", "[")))
            self.assertEqual(refused(Language(), (thing,)), (0, ("word", "end")))

    def test_end_of_the_file(self):
        self.assertEqual(refused(Language(), tokens("a = b")), (3, (";",)))
        self.assertEqual(refused(Language(), ("a",)), (1, ("=",)))
        self.assertEqual(refused(Language(end="may"), tokens("a =")), (2, ("word", "number", "[")))
        self.assertEqual(refused(Language(end="may"), tokens("a = [ b")), (4, (",", "]")))
        self.assertEqual(refused(Language(bare=True), tokens("a")), (1, ("=", ";")))
        self.assertEqual(refused(Language(nothing=True), tokens("a =")), (2, ("word", "number", ";", "[")))
        self.assertEqual(refused(Language(end="between", bare=True), tokens("a")), None)

    def test_refusals_of_all_kinds(self):
        chance = random.Random(3)
        for language in some_languages(120, 3):
            for _ in range(20):
                file = [chance.choice(WORDS + NUMERALS + SIGNS) for _ in range(chance.randint(0, 7))]
                state, wanted = "start", None
                for at, token in enumerate(file):
                    sort = token if token in SIGNS else "number" if token.isdigit() else "word"
                    if language.step(state, sort) is None:
                        wanted = (at, language.next_sorts(state))
                        break
                    state = language.step(state, sort)
                if wanted is None and not language.closes(state):
                    wanted = (len(file), language.next_sorts(state))
                self.assertEqual(refused(language, file), wanted)


class SpansAndRoles(unittest.TestCase):
    def test_spans(self):
        self.assertEqual(spans(Language(), []), [])
        self.assertEqual(spans(LOOSE, tokens("a = b ; ; c [ d ] e = ; f")), [(0, 5), (5, 9), (9, 12), (12, 13)])
        self.assertEqual(spans(LOOSE, tuple(tokens("a b c d ;"))), [(0, 2), (2, 5)])

    def test_spans_lie_one_behind_another(self):
        chance = random.Random(5)
        for language in some_languages(100, 5):
            for _ in range(10):
                file = some_file(chance, language, chance.randint(0, 12))
                places = spans(language, file)
                bounds = [place for span in places for place in span]
                self.assertEqual(bounds[1:-1:2], bounds[2::2])
                self.assertEqual((bounds[:1] or [0]) + (bounds[-1:] or [0]), [0, len(file)])
                entries = read(language, file)
                self.assertEqual([file[first] for first, _ in places], [name for name, _ in entries])
                names = [at for at, role in enumerate(roles(language, file)) if role == "name"]
                self.assertEqual(names, [first for first, _ in places])

    def test_roles(self):
        language = Language(end="may", comma="joins", bare=True, nothing=True)
        file = tokens("a = b c = 1 ; d = [ e f , g ] h = ; i j")
        self.assertEqual(roles(language, file), [
            "name", "equals", "word", "name", "equals", "number", "end", "name", "equals", "open", "item", "item",
            "comma", "item", "close", "name", "equals", "end", "name", "name"])
        self.assertEqual(roles(LOOSE, tokens("a b c 1 d [ ]")),
                         ["name", "word", "name", "number", "name", "open", "close"])
        self.assertEqual(roles(Language(), []), [])
        self.assertEqual(roles(Language(comma="may"), tokens("a = [ b c ] ;")),
                         ["name", "equals", "open", "item", "item", "close", "end"])

    def test_states(self):
        self.assertEqual(states(Language(), []), ["start"])
        self.assertEqual(states(LOOSE, tokens("a = [ b c , ] ; d 1")), [
            "start", "name", "equals", "open", "item", "pair", "comma", "done", "ended", "name", "done"])


class Meaning(unittest.TestCase):
    def test_doubled_signs_count_once(self):
        for language in some_languages(40, 8):
            once = language.with_options(doubled=())
            for file in all_files(language, 5, ["a"], ["1"]):
                short = [token for at, token in enumerate(file)
                         if at == 0 or token != file[at - 1] or token not in language.doubled]
                self.assertEqual(read(once, short), read(language, file))


if __name__ == "__main__":
    unittest.main()
