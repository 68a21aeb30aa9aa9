import random
import unittest

from houses import house_of, some_house, some_rule
from slipreach.errors import BadPage, FarReach, TooManyConducts
from slipreach.fates import fates
from slipreach.kinds import Setting
from slipreach.pages import page_of, read_page
from slipreach.playing import FATES
from slipreach.rules import SlipRule

KINDS = ["left", "doubled", "swapped", "written"]
ROLES = ["name", "equals", "word", "number", "open", "item", "comma", "close", "end"]
GOOD = "left    0 item    rows         reader, same, more"


def some_table(chance):
    table = {}
    for _ in range(chance.randint(0, 12)):
        place = (chance.choice(KINDS), chance.randrange(3), chance.choice(ROLES),
                 chance.choice(["", "a", "b", "rows", "abcdefghijkl"]))
        row = tuple(fate for fate in FATES if chance.random() < 0.5)
        table[place] = row or ("same",)
    return table


class Pages(unittest.TestCase):
    def test_lines(self):
        self.assertEqual(read_page([]), {})
        self.assertEqual(read_page([GOOD]), {("left", 0, "item", "rows"): ("reader", "same", "more")})
        self.assertEqual(read_page(["swapped 2 number  abcdefghijkl builder", "written 1 end                  less"]),
                         {("swapped", 2, "number", "abcdefghijkl"): ("builder",), ("written", 1, "end", ""): ("less",)})
        self.assertEqual(page_of({}), [])
        self.assertEqual(page_of({("left", 0, "item", "rows"): ("reader", "same", "more")}), [GOOD])

    def test_wrong_lines(self):
        wrong = [
            "", " ", GOOD[:-1], GOOD + " ", GOOD + ",", GOOD + ", ", " " + GOOD, GOOD[:31], GOOD[:20], GOOD[:5], GOOD[:9],
            GOOD + "\n", "\n" + GOOD, GOOD.replace("left ", "right"), GOOD.replace("left ", "Left "),
            GOOD.replace("left    ", "left     "), GOOD.replace("left    ", "left   "), GOOD.replace(" 0 ", " 3 "),
            GOOD.replace(" 0 ", "  0"), GOOD.replace(" 0 ", " 00"), GOOD.replace(" 0 ", " a "),
            GOOD.replace(" 0 ", "   "), GOOD.replace("item", "text"), GOOD.replace("item    ", "        "),
            GOOD.replace("item    ", " item   "), GOOD.replace("rows ", "Rows "), GOOD.replace("rows ", "row1 "),
            GOOD.replace("rows     ", " rows    "), GOOD.replace("rows     ", "ro ws    "),
            GOOD.replace("rows         ", "abcdefghijklm"), GOOD.replace("rows         ", "rows        "),
            GOOD.replace("rows         ", "rows          "), GOOD.replace("reader, ", "reader,"),
            GOOD.replace("reader, ", "reader,  "), GOOD.replace("reader, ", "reader "),
            GOOD.replace("reader, same", "same, reader"), GOOD.replace("reader, same", "same, same"),
            GOOD.replace("reader", "read"), GOOD.replace("reader", "Reader"), GOOD.replace("reader, same, more", ""),
            GOOD.replace("reader, same, more", "same, more, less, less"), GOOD.replace("rows ", "rows\t")]
        other = GOOD.replace("left   ", "doubled")
        for line in wrong:
            for lines, at in (([line], 0), ([GOOD, line], 1), ([other, GOOD, line, ""], 2)):
                with self.assertRaises(BadPage) as caught:
                    read_page(lines)
                self.assertEqual(caught.exception.line, at, repr(line))
        twice = GOOD.replace("reader, same, more", "less")
        with self.assertRaises(BadPage) as caught:
            read_page([GOOD, other, twice])
        self.assertEqual(caught.exception.line, 2)

    def test_order(self):
        names = ["a", "b", "rows", ""]
        wanted = [(kind, layer, role, name) for kind in KINDS for layer in range(3) for role in ROLES for name in names]
        mixed = wanted[:]
        random.Random(1).shuffle(mixed)
        lines = page_of({place: ("same", "less") for place in mixed})
        self.assertEqual(list(read_page(lines)), wanted)
        random.Random(2).shuffle(lines)
        self.assertEqual(list(read_page(lines)), [next(iter(read_page([line]))) for line in lines])

    def test_each_of_the_others_output(self):
        for seed in range(200):
            table = some_table(random.Random(seed))
            lines = page_of(table)
            self.assertEqual(read_page(lines), table)
            self.assertEqual(page_of(read_page(lines)), lines)

    def test_pages_of_fates(self):
        for seed in range(60):
            chance = random.Random(seed)
            house, rule = some_house(chance, most=(2,)), some_rule(chance)
            try:
                found = fates(house, rule)
            except (FarReach, TooManyConducts):
                continue
            self.assertEqual(read_page(found.page()), {place: found.of(place) for place in found.places()})
            self.assertEqual(list(read_page(found.page())), found.places())
        one = fates(house_of([Setting("note", "word")], "or owner is @note\ntake"), SlipRule("left", "word"))
        self.assertEqual(page_of(read_page(one.page())), one.page())


if __name__ == "__main__":
    unittest.main()
