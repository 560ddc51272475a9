"""The errors of the package: each with just the fields with which it is made."""


class HallError(ValueError):
    """What all errors of the package are."""

    # The errors without fields are made without arguments.
    def __init__(self):
        ValueError.__init__(self)


class NoRow(HallError):
    """What should be a row, or a row of the game, is none."""


class NoGame(HallError):
    """What should be a game is none."""


class NoRows(HallError):
    """What should be rows is none."""


class TooMany(HallError):
    """There are more than `most` of something."""

    def __init__(self, most):
        self.most = most


class NoSide(HallError):
    """What should be a side is none."""


class BadHall(HallError):
    """The board with the number `at` is none; -1 if there is no tuple of 1 to 12 boards at all."""

    def __init__(self, at):
        self.at = at


class NoLot(HallError):
    """What should be a lot of boards is none."""


class NoAim(HallError):
    """What should be an aim is none."""


class NoNumber(HallError):
    """What should be a number is none, or one that cannot be taken here."""


class NoGames(HallError):
    """What should be games for the hall is none."""


class NoBoard(HallError):
    """What should be the number of a board is none."""


class NoWord(HallError):
    """What should be a word is none."""


class NotTurn(HallError):
    """It is not the turn of the one who moves."""


class NotLet(HallError):
    """The word is not let."""


class NothingDone(HallError):
    """Nothing is there that could be taken back."""


class NoLog(HallError):
    """What should be a log is none."""


class NoMove(HallError):
    """A guest gave what is no move."""


class NoAnswer(HallError):
    """Masters gave what is no answer."""


class NoPairing(HallError):
    """What should be a pairing is none."""


class NotSpoiled(HallError):
    """The aim is sure, so that no foe can spoil it."""


class Over(HallError):
    """The hall is closed."""


class NotFresh(HallError):
    """A hall has boards that do not begin with the row ()."""


class NoChoice(HallError):
    """What should be a choice is none."""


class NoSorts(HallError):
    """What should be sorts is none."""


class NoPoints(HallError):
    """What should be points is none."""


class NoStocks(HallError):
    """What should be stocks is none."""


class NoPrices(HallError):
    """What should be prices is none."""


class NoRelay(HallError):
    """What should be a relay is none."""


class NoName(HallError):
    """What should be a name is none."""


class Full(HallError):
    """The row of a board cannot take a word more."""


class BadText(HallError):
    """A text cannot be read at the line `line`, counted from 1; 0 if it is no string."""

    def __init__(self, line):
        self.line = line


class NoText(HallError):
    """What should be the text of an aim is none."""


class NoLine(HallError):
    """What should be a line for the desk is none."""


class NoKey(HallError):
    """There is no hall under the key `key`."""

    def __init__(self, key):
        self.key = key
