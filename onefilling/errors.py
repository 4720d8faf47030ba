"""The errors of the package. Each keeps what was passed, or where it is wrong."""


class FillingError(ValueError):
    """What each error of the package is."""


class InvalidKind(FillingError):
    """What was given is no kind."""

    def __init__(self, given):
        self.given = given


class InvalidSheet(FillingError):
    """What was given is no sheet of the kind."""

    def __init__(self, given):
        self.given = given


class InvalidPuzzle(FillingError):
    """What was given is no puzzle."""

    def __init__(self, given):
        self.given = given


class InvalidFilling(FillingError):
    """What was given is no filling of the kind."""

    def __init__(self, given):
        self.given = given


class InvalidLot(FillingError):
    """What was given is no lot of rules, or of places."""

    def __init__(self, given):
        self.given = given


class InvalidStrike(FillingError):
    """What was given is no strike of the sheet."""

    def __init__(self, given):
        self.given = given


class InvalidNumber(FillingError):
    """What was given is no number of those that are asked for."""

    def __init__(self, given):
        self.given = given


class InvalidName(FillingError):
    """What was given is no name of those that are asked for."""

    def __init__(self, given):
        self.given = given


class InvalidTurn(FillingError):
    """What was given is no turn of the kind."""

    def __init__(self, given):
        self.given = given


class InvalidMove(FillingError):
    """What was given is no move that fits."""

    def __init__(self, given):
        self.given = given


class Alike(FillingError):
    """The entry with the name that is given is the same puzzle, turned."""

    def __init__(self, given):
        self.given = given


class InvalidRow(FillingError):
    """No row of reasons: the one at the index is none."""

    def __init__(self, index):
        self.index = index


class InvalidMoves(FillingError):
    """No game: the move at the index does not fit."""

    def __init__(self, index):
        self.index = index


class InvalidOrder(FillingError):
    """No order: the number at the index is wrong."""

    def __init__(self, index):
        self.index = index


class InvalidBook(FillingError):
    """No book: the entry at the index is wrong."""

    def __init__(self, index):
        self.index = index


class InvalidLots(FillingError):
    """No tuple of lots: the lot at the index is wrong."""

    def __init__(self, index):
        self.index = index


class InvalidCommands(FillingError):
    """No commands: the one at the index is none."""

    def __init__(self, index):
        self.index = index


class InvalidText(FillingError):
    """No text: the row at the line is wrong."""

    def __init__(self, line):
        self.line = line


class NotOne(FillingError):
    """The puzzle has not just one filling."""
