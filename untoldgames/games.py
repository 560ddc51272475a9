"""Games: the rows of words that can be played on a board."""

from untoldgames.errors import NoGame, NoRow, NoRows, TooMany
from untoldgames.kinds import is_ascending, is_row

MOST_ROWS = 600


def mover(row):
    """The side that is to move behind a row."""
    if not is_row(row):
        raise NoRow()
    return len(row) % 2


def is_game(thing):
    """Tells whether a thing is a game."""
    if not isinstance(thing, tuple) or not 1 <= len(thing) <= MOST_ROWS:
        return False
    if not all([is_row(row) for row in thing]) or not is_ascending(thing):
        return False
    # The shortest row must be (), as the one without its last word is not there for any other one.
    rows = {row: True for row in thing}
    return all([row[:-1] in rows for row in thing])


def check_game(game):
    """Raises NoGame for what is no game."""
    if not is_game(game):
        raise NoGame()


def check_place(game, row):
    """Raises NoGame for what is no game, NoRow for what is no row of it."""
    check_game(game)
    if not is_row(row) or row not in game:
        raise NoRow()


def let_words(game, row):
    """The ascending tuple of the words that are let at a row of a game."""
    check_place(game, row)
    return tuple([longer[-1] for longer in game if len(longer) == len(row) + 1 and longer[:-1] == row])


def beginnings(rows):
    """The ascending tuple of all rows with which some rows begin, () and they themselves among them."""
    found = {(): True}
    for row in rows:
        for end in range(len(row)):
            found[row[:end + 1]] = True
    return tuple(sorted(found))


def game_of(rows):
    """The game with the fewest rows that has all of some rows."""
    if not isinstance(rows, (list, tuple)) or len(rows) > MOST_ROWS:
        raise NoRows()
    if not all([is_row(row) for row in rows]):
        raise NoRows()
    game = beginnings(rows)
    if len(game) > MOST_ROWS:
        raise TooMany(MOST_ROWS)
    return game


def behind(game, row):
    """The game of the words that can still be played behind a row."""
    check_place(game, row)
    return tuple([longer[len(row):] for longer in game if longer[:len(row)] == row])


def both_games(one, other):
    """The game of the rows that are in both of two games."""
    check_game(one)
    check_game(other)
    rows = {row: True for row in other}
    return tuple([row for row in one if row in rows])
