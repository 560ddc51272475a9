"""Halls: the boards at which a guest sits, and the games that can be played there."""

from untoldgames.errors import BadHall, NoGames, NoLot
from untoldgames.games import beginnings, is_game
from untoldgames.kinds import is_lot, is_name, is_side, is_words

MOST_BOARDS = 12
MOST_BEGUN = 20


def is_board(thing):
    """Tells whether a thing is a board."""
    if not isinstance(thing, tuple) or len(thing) != 3:
        return False
    name, side, begun = thing
    return is_name(name) and is_side(side) and is_words(begun, MOST_BEGUN)


def names_of(boards):
    """The ascending tuple of the names of some boards."""
    return tuple(sorted({board[0] for board in boards}))


class Hall:
    """A hall: its boards, each a triple (name, side, begun), and their names."""

    def __init__(self, boards):
        if not isinstance(boards, tuple) or not 1 <= len(boards) <= MOST_BOARDS:
            raise BadHall(-1)
        for at, board in enumerate(boards):
            if not is_board(board):
                raise BadHall(at)
        self.boards = boards
        self.names = names_of(boards)

    def __eq__(self, other):
        return isinstance(other, Hall) and self.boards == other.boards


def hall_of(boards):
    """The hall with some boards that are known to be boards, also with more of them than can be constructed."""
    hall = Hall(boards[:1])
    hall.boards = boards
    hall.names = names_of(boards)
    return hall


def is_fresh(thing):
    """Tells whether a thing is a hall all of whose boards begin with ()."""
    return isinstance(thing, Hall) and all([begun == () for _, _, begun in thing.boards])


def turned(hall):
    """The hall with the guest at the other side of each board."""
    return hall_of(tuple([(name, 1 - side, begun) for name, side, begun in hall.boards]))


def joined(one, other):
    """The hall with the boards of one hall, and then those of another one."""
    return hall_of(one.boards + other.boards)


def only(hall, lot):
    """The hall with the boards of a lot alone."""
    if not is_lot(lot, len(hall.boards)) or lot == ():
        raise NoLot()
    return hall_of(tuple([hall.boards[number] for number in lot]))


def are_games(hall, thing):
    """Tells whether a thing is games for a hall."""
    if not isinstance(thing, dict) or len(thing) != len(hall.names):
        return False
    if not all([name in thing and is_game(thing[name]) for name in hall.names]):
        return False
    return all([begun in thing[name] for name, _, begun in hall.boards])


def check_games(hall, games):
    """Raises NoGames for what is no games for a hall."""
    if not are_games(hall, games):
        raise NoGames()


def least_games(hall):
    """The games for a hall with the fewest rows."""
    games = {}
    for name in hall.names:
        games[name] = beginnings([board[2] for board in hall.boards if board[0] == name])
    return games
