import unittest

from slipreach import errors

LISTED = """
BadText(at), BadLanguage(option), Unreadable(at, awaited), Unwritable(entry), BadSlip(at), BadRule(worth),
BadFilling(symbol), NotPlaced(side), BadSetting(name), BadSchema(what), NoSetting(name), NoEntry(entry),
UnknownName(entry, word), WrongKind(entry, name), DoubledName(entry, name), BadLayers(count), BadLayer(layer),
TopLacking(name), Lacking(name), EmptyList(name), BadMove(name), BadEdition(name), BadPath(at), Reused(word),
BadTable(at), BadKind(name), BadBuilder(line), BadSettings(name), TooManyConducts(most), WrongTable(),
BadTest(part), Refused(line), BadRows(at), BadColumn(name), TooManyRows(count, most), BadHouse(what),
BadFiles(count), NotTaken(stage), FarReach(file, slip), BadGoal(goal), BadGuard(index), BadOld(index),
BadPair(what), BadPreview(name), BadRow(), BadDifference(word), BadHouses(count), NoHouse(name),
Blocked(stage, error), BadPage(line)
"""


def listed():
    for part in LISTED.replace("\n", " ").split("),"):
        name, _, rest = part.strip().rstrip(")").partition("(")
        yield name, [word.strip() for word in rest.split(",") if word.strip()]


class Errors(unittest.TestCase):
    def test_base(self):
        self.assertEqual(errors.SettingsError.__bases__, (ValueError,))

    def test_each_error(self):
        self.assertEqual(len(list(listed())), 50)
        for name, attributes in listed():
            kind = getattr(errors, name)
            self.assertEqual(kind.__bases__, (errors.SettingsError,), name)
            things = [object() for _ in attributes]
            error = kind(*things)
            for attribute, thing in zip(attributes, things):
                self.assertIs(getattr(error, attribute), thing)
            by_name = kind(**dict(zip(attributes, things)))
            self.assertEqual(vars(by_name), vars(error))
            self.assertEqual(list(vars(error)), attributes)


if __name__ == "__main__":
    unittest.main()
