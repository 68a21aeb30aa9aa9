import random
import unittest

from samples import all_files, some_entry, some_languages
from slipreach.errors import Unwritable
from slipreach.language import Language
from slipreach.reader import read
from slipreach.tokens import text_of
from slipreach.writer import plain, shortest, writable


class Writable(unittest.TestCase):
    def test_values_of_each_kind(self):
        for language in (Language(), Language(comma="may", bare=True)):
            for value in ["b", "yes", "l" * 12, 0, 10 ** 12 - 1, (), ("a",), ("a", "b", "a")]:
                self.assertIs(writable(language, ("a", value)), True)
            for value in [None, ("a b",), ("a", "b c")]:
                self.assertIs(writable(language, ("a", value)), False)
        self.assertIs(writable(Language(nothing=True), ("a", None)), True)
        self.assertIs(writable(Language(comma="joins"), ("a", ("a b", "c"))), True)
        self.assertIs(writable(Language(comma="joins"), ("a", None)), False)

    def test_other_objects(self):
        language = Language(nothing=True, comma="joins")
        for thing in [None, "a", (), ("a",), ["a", "b"], ("a", "b", "c"), ("A", "b"), ("", "b"), (1, "b"),
                      ("a b", "b"), ("a", "b c"), ("a", True), ("a", -1), ("a", 10 ** 12), ("a", 1.5),
                      ("a", ["b"]), ("a", ("b", 1)), ("a", ("b", ())), ("a", ("a b c",)), ("a", "l" * 13),
                      ("a", "12"), ("a", ""), ("l" * 13, "a"), ("a", {}), object()]:
            self.assertIs(writable(language, thing), False, thing)

    def test_first_unwritable_object(self):
        wrong = ["b", None]
        for function in (plain, shortest):
            for entries in ([("a", "b"), wrong, ("a", None)], (("a", 1), wrong)):
                with self.assertRaises(Unwritable) as caught:
                    function(Language(), entries)
                self.assertIs(caught.exception.entry, wrong)


class Plain(unittest.TestCase):
    def test_examples(self):
        entries = [("a", "b"), ("c", 12), ("d", ()), ("e", ("f", "g")), ("h", "yes")]
        text = "a = b ; c = 12 ; d = [ ] ; e = [ f , g ] ; h = yes ;"
        self.assertEqual(text_of(plain(Language(), entries)), text)
        self.assertEqual(text_of(plain(Language(equals="may", end="may", comma="may", last="may", bare=True),
                                       tuple(entries))), text)
        self.assertEqual(text_of(plain(Language(last="must"), entries)), text.replace("g ]", "g , ]"))
        language = Language(nothing=True, comma="joins")
        self.assertEqual(text_of(plain(language, [("a", None), ("b", ("c d", "e"))])),
                         "a = ; b = [ c d , e ] ;")
        self.assertEqual(plain(Language(), []), [])

    def test_read_back(self):
        chance = random.Random(1)
        for language in some_languages(300, 1):
            entries = [some_entry(chance, language) for _ in range(chance.randint(0, 5))]
            self.assertEqual(read(language, plain(language, entries)), entries)


class Shortest(unittest.TestCase):
    def check(self, text, entries, **options):
        self.assertEqual(text_of(shortest(Language(**options), entries)), text)

    def test_examples(self):
        entries = [("a", "yes"), ("b", "c"), ("d", ("e", "f")), ("g", "yes")]
        self.check("a = yes ; b = c ; d = [ e , f ] ; g = yes ;", entries)
        self.check("a ; b = c ; d = [ e f ] ; g", entries, bare=True, end="between", comma="may")
        self.check("a b = c d = [ e , f , ] g", entries, bare=True, end="may", last="must")
        self.check("a ; b c d [ e , f ] g", entries, bare=True, end="may", equals="may")
        self.check("a yes b c d [ e , f ] g yes", entries, end="may", equals="may")
        self.check("a yes ; b c ; d [ e f , ] ; g yes ;", entries, equals="may", comma="may", last="must")
        self.check("a = ; b = ; c", [("a", None), ("b", None), ("c", "yes")], nothing=True, bare=True, end="may")
        self.check("a = ; b =", [("a", None), ("b", None)], nothing=True, equals="may", end="between")
        self.check("a = [ b c , d ] ;", [("a", ("b c", "d"))], comma="joins")
        self.check("a = [ ] ; a = [ b , ]", [("a", ()), ("a", ("b",))], last="must", end="between")
        self.check("", [], bare=True)

    def test_no_shorter_file(self):
        for language in some_languages(150, 4):
            best = {}
            for file in all_files(language, 6, ["a", "yes"], ["1"]):
                entries = tuple(read(language, file))
                best.setdefault(entries, []).append(file)
            for entries, files in best.items():
                least = min(len(file) for file in files)
                least_files = [file for file in files if len(file) == least]
                found = shortest(language, list(entries))
                self.assertIn(found, least_files)
                # Where several files are shortest, names alone with `;` stand for "yes".
                for other in least_files:
                    for at, token in enumerate(found):
                        if token != other[at]:
                            self.assertEqual((token, other[at]), (";", "yes"))

    def test_read_back(self):
        chance = random.Random(2)
        for language in some_languages(300, 2):
            entries = [some_entry(chance, language) for _ in range(chance.randint(0, 5))]
            file = shortest(language, entries)
            self.assertEqual(read(language, file), entries)
            self.assertLessEqual(len(file), len(plain(language, entries)))


if __name__ == "__main__":
    unittest.main()
