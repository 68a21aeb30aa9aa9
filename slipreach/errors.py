"""The errors of the program: each one directly under SettingsError."""


class SettingsError(ValueError):
    """The base of every error of the program."""


class BadText(SettingsError):
    def __init__(self, at):
        super().__init__("a text that is no row of tokens")
        self.at = at


class BadLanguage(SettingsError):
    def __init__(self, option):
        super().__init__("an option of a language that is not allowed")
        self.option = option


class Unreadable(SettingsError):
    def __init__(self, at, awaited):
        super().__init__("a file that the language does not read")
        self.at = at
        self.awaited = awaited


class Unwritable(SettingsError):
    def __init__(self, entry):
        super().__init__("an entry that the language does not write")
        self.entry = entry


class BadSlip(SettingsError):
    def __init__(self, at):
        super().__init__("a slip that cannot be made")
        self.at = at


class BadRule(SettingsError):
    def __init__(self, worth):
        super().__init__("a part of a slip rule that is none")
        self.worth = worth


class BadFilling(SettingsError):
    def __init__(self, symbol):
        super().__init__("a filling that does not fit a symbol")
        self.symbol = symbol


class NotPlaced(SettingsError):
    def __init__(self, side):
        super().__init__("a shape that cannot stand beside these entries")
        self.side = side


class BadSetting(SettingsError):
    def __init__(self, name):
        super().__init__("a setting with a wrong part")
        self.name = name


class BadSchema(SettingsError):
    def __init__(self, what):
        super().__init__("a schema with a wrong part")
        self.what = what


class NoSetting(SettingsError):
    def __init__(self, name):
        super().__init__("a name that is no setting of the schema")
        self.name = name


class NoEntry(SettingsError):
    def __init__(self, entry):
        super().__init__("no such entry")
        self.entry = entry


class UnknownName(SettingsError):
    def __init__(self, entry, word):
        super().__init__("an entry whose word calls no setting")
        self.entry = entry
        self.word = word


class WrongKind(SettingsError):
    def __init__(self, entry, name):
        super().__init__("a value that does not fit its setting")
        self.entry = entry
        self.name = name


class DoubledName(SettingsError):
    def __init__(self, entry, name):
        super().__init__("a setting with several entries")
        self.entry = entry
        self.name = name


class BadLayers(SettingsError):
    def __init__(self, count):
        super().__init__("a wrong number of layers")
        self.count = count


class BadLayer(SettingsError):
    def __init__(self, layer):
        super().__init__("no such layer")
        self.layer = layer


class TopLacking(SettingsError):
    def __init__(self, name):
        super().__init__("a value that the top layer does not give")
        self.name = name


class Lacking(SettingsError):
    def __init__(self, name):
        super().__init__("a value that no layer gives")
        self.name = name


class EmptyList(SettingsError):
    def __init__(self, name):
        super().__init__("an empty list where items are needed")
        self.name = name


class BadMove(SettingsError):
    def __init__(self, name):
        super().__init__("a move that cannot be made")
        self.name = name


class BadEdition(SettingsError):
    def __init__(self, name):
        super().__init__("an edition that does not lead over")
        self.name = name


class BadPath(SettingsError):
    def __init__(self, at):
        super().__init__("a path that does not hold together")
        self.at = at


class Reused(SettingsError):
    def __init__(self, word):
        super().__init__("a word that calls another setting later")
        self.word = word


class BadTable(SettingsError):
    def __init__(self, at):
        super().__init__("a table with a wrong column")
        self.at = at


class BadKind(SettingsError):
    def __init__(self, name):
        super().__init__("a setting without a kind that builders know")
        self.name = name


class BadBuilder(SettingsError):
    def __init__(self, line):
        super().__init__("a wrong line of a builder text")
        self.line = line


class BadSettings(SettingsError):
    def __init__(self, name):
        super().__init__("a value that does not fit its kind")
        self.name = name


class TooManyConducts(SettingsError):
    def __init__(self, most):
        super().__init__("too many conducts")
        self.most = most


class WrongTable(SettingsError):
    """Things of unlike tables."""


class BadTest(SettingsError):
    def __init__(self, part):
        super().__init__("a test with a wrong part")
        self.part = part


class Refused(SettingsError):
    def __init__(self, line):
        super().__init__("a builder that refuses the settings")
        self.line = line


class BadRows(SettingsError):
    def __init__(self, at):
        super().__init__("a value that is no row of the table")
        self.at = at


class BadColumn(SettingsError):
    def __init__(self, name):
        super().__init__("a change of a column that cannot be made")
        self.name = name


class TooManyRows(SettingsError):
    def __init__(self, count, most):
        super().__init__("a deed that takes too many rows")
        self.count = count
        self.most = most


class BadHouse(SettingsError):
    def __init__(self, what):
        super().__init__("a house with a wrong part")
        self.what = what


class BadFiles(SettingsError):
    def __init__(self, count):
        super().__init__("a wrong number of files")
        self.count = count


class NotTaken(SettingsError):
    def __init__(self, stage):
        super().__init__("files that the house does not take")
        self.stage = stage


class FarReach(SettingsError):
    def __init__(self, file, slip):
        super().__init__("a rule whose slips reach far")
        self.file = file
        self.slip = slip


class BadGoal(SettingsError):
    def __init__(self, goal):
        super().__init__("no such goal")
        self.goal = goal


class BadGuard(SettingsError):
    def __init__(self, index):
        super().__init__("a guard that does not fit")
        self.index = index


class BadOld(SettingsError):
    def __init__(self, index):
        super().__init__("old files that the house does not take")
        self.index = index


class BadPair(SettingsError):
    def __init__(self, what):
        super().__init__("houses that form no pair")
        self.what = what


class BadPreview(SettingsError):
    def __init__(self, name):
        super().__init__("a preview of a name that is none")
        self.name = name


class BadRow(SettingsError):
    """A value that is no row of the table."""


class BadDifference(SettingsError):
    def __init__(self, word):
        super().__init__("no such difference")
        self.word = word


class BadHouses(SettingsError):
    def __init__(self, count):
        super().__init__("a wrong number of houses")
        self.count = count


class NoHouse(SettingsError):
    def __init__(self, name):
        super().__init__("no house of this name")
        self.name = name


class Blocked(SettingsError):
    def __init__(self, stage, error):
        super().__init__("a console that is not ready")
        self.stage = stage
        self.error = error


class BadPage(SettingsError):
    def __init__(self, line):
        super().__init__("a wrong line of a page")
        self.line = line
