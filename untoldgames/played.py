"""What is played on the boards of a hall: rows, whose turn it is, and what would be won now."""

from untoldgames.errors import NoRows
from untoldgames.kinds import is_row


def is_turn(board, row):
    """Tells whether the guest is to move on a board at a row."""
    return len(row) % 2 == board[1]


def turns_at(hall, rows):
    """The tuple of flags for the rows of all boards, True where the guest is to move."""
    return tuple([is_turn(board, row) for board, row in zip(hall.boards, rows)])


def won_at(hall, rows):
    """The lot of the boards that are won if a hall closes with these rows: a master is to move there."""
    return tuple([at for at, turn in enumerate(turns_at(hall, rows)) if not turn])


def begun_rows(hall):
    """The list of the rows with which the boards of a hall begin."""
    return [begun for _, _, begun in hall.boards]


def known_rows(games):
    """For each name of some games a dict that has the rows of its game as keys."""
    return {name: {row: True for row in game} for name, game in games.items()}


def are_rows(hall, thing):
    """Tells whether a thing is rows for a hall."""
    if not isinstance(thing, tuple) or len(thing) != len(hall.boards):
        return False
    return all([is_row(row) and row[:len(begun)] == begun for row, begun in zip(thing, begun_rows(hall))])


def check_rows(hall, rows):
    """Raises NoRows for what is no rows for a hall."""
    if not are_rows(hall, rows):
        raise NoRows()
