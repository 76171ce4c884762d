"""The errors of this package."""


class FoldError(Exception):
    """The base class of all errors of this package."""


class BadBook(FoldError):
    """Entries or rules are none."""

    def __init__(self, part):
        self.part = part


class NotClear(FoldError):
    """Rules clash in this row."""

    def __init__(self, row):
        self.row = row


class BadProgram(FoldError):
    """A part of a program is none."""

    def __init__(self, part):
        self.part = part


class OtherBook(FoldError):
    """The books differ."""


class NoFold(FoldError):
    """Nothing can be folded at this index."""

    def __init__(self, index):
        self.index = index


class NotNet(FoldError):
    """A value is no net."""

    def __init__(self, row):
        self.row = row


class NoStep(FoldError):
    """No step of this number goes."""

    def __init__(self, number):
        self.number = number


class NoLog(FoldError):
    """There is no log."""


class NoRoad(FoldError):
    """There is no road."""


class TooLong(FoldError):
    """A run is too long to be told."""

    def __init__(self, length):
        self.length = length


class BadTable(FoldError):
    """A value is no row of a table."""

    def __init__(self, row):
        self.row = row


class BadMeaning(FoldError):
    """A part of a meaning is none."""

    def __init__(self, part):
        self.part = part


class NothingThere(FoldError):
    """What is asked for is not there."""


class InvalidText(FoldError):
    """A value is no text; the place is the number of a line."""

    def __init__(self, place):
        self.place = place


class InvalidCommand(FoldError):
    """A value is no command."""

    def __init__(self, line):
        self.line = line


class NoBook(FoldError):
    """A command needs a book, and there is none."""


class UnknownName(FoldError):
    """There is no program of this name."""

    def __init__(self, name):
        self.name = name
