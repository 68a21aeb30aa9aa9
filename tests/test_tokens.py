import unittest

from slipreach.errors import BadText
from slipreach.tokens import is_item, is_number, is_pair, is_word, sort_of, text_of, tokens

STRANGE = [None, True, False, 0, 1, 1.0, b"a", ["a"], ("a",), {"a": 1}, object(), {"a"}]


class Tokens(unittest.TestCase):
    def test_words(self):
        for word in ["a", "z", "yes", "abcdefghijkl", "l" * 12]:
            self.assertIs(is_word(word), True)
            self.assertEqual(sort_of(word), "word")
        for thing in ["", "A", "a b", "abcdefghijklm", "a1", "\u00e9", "a\n", " a", "a-b", *STRANGE]:
            self.assertIs(is_word(thing), False, thing)

    def test_numerals(self):
        for numeral in ["0", "7", "10", "9" * 12, "1" + "0" * 11]:
            self.assertEqual(sort_of(numeral), "number")
        for thing in ["", "00", "01", "1" * 13, "-1", "+1", "1.0", "1 ", "\u00b2", "\u0661", "1a", "a1"]:
            self.assertIsNone(sort_of(thing))

    def test_signs_and_other_objects(self):
        for sign in "=;,[]":
            self.assertEqual(sort_of(sign), sign)
        for thing in ["==", "(", " ", "\n", "a b", *STRANGE]:
            self.assertIsNone(sort_of(thing))

    def test_numbers(self):
        for thing in [0, 1, 10 ** 12 - 1]:
            self.assertIs(is_number(thing), True)
        for thing in [-1, 10 ** 12, True, False, 1.0, "1", None, (1,)]:
            self.assertIs(is_number(thing), False)

    def test_pairs_and_items(self):
        for thing in ["a b", "yes no", "l" * 12 + " " + "m" * 12]:
            self.assertIs(is_pair(thing), True)
            self.assertIs(is_item(thing), True)
            self.assertIs(is_word(thing), False)
        for thing in ["a", "a  b", " a", "a ", "a b c", "a 1", "l" * 13 + " a", "a\nb", *STRANGE]:
            self.assertIs(is_pair(thing), False, thing)
        for thing in ["a", "abcdefghijkl"]:
            self.assertIs(is_item(thing), True)
        for thing in ["", "0", "=", "a b c", "l" * 13, *STRANGE]:
            self.assertIs(is_item(thing), False, thing)

    def test_texts(self):
        self.assertEqual(tokens(""), [])
        self.assertEqual(tokens(" \n \n"), [])
        self.assertEqual(tokens("a=b;"), ["a", "=", "b", ";"])
        self.assertEqual(tokens("ab = [x,y z]\n; c\n12"),
                         ["ab", "=", "[", "x", ",", "y", "z", "]", ";", "c", "12"])
        self.assertEqual(tokens("==;;[][,"), ["=", "=", ";", ";", "[", "]", "[", ","])
        self.assertEqual(tokens("l" * 12 + " " + "9" * 12 + " 0"), ["l" * 12, "9" * 12, "0"])

    def test_wrong_texts(self):
        cases = {"ab12": 0, "a ab12": 2, "12ab": 0, "l" * 13: 0, "a " + "l" * 13 + "%": 2, "01": 0, "a = 00": 4,
                 "1" * 13: 0, "a\tb": 1, "A": 0, "aB": 1, "a.b": 1, "a \u00e9 ab1": 2, "ab1 \u00e9": 0,
                 "a = b ; (": 8, "0a": 0, "\r": 0, "a1\u00e9": 0, "aa\u00e9": 2}
        for text, at in cases.items():
            with self.assertRaises(BadText) as caught:
                tokens(text)
            self.assertEqual(caught.exception.at, at, text)

    def test_text_of(self):
        self.assertEqual(text_of([]), "")
        self.assertEqual(text_of(["a"]), "a")
        file = ["a", "=", "[", "b", ",", "c", "]", ";", "x", "12"]
        self.assertEqual(text_of(file), "a = [ b , c ] ; x 12")
        self.assertEqual(tokens(text_of(file)), file)
        self.assertEqual(text_of(tuple(file)), text_of(file))


if __name__ == "__main__":
    unittest.main()
