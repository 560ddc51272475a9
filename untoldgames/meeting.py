"""Meeting: one and the same master at each side of each game, and choices of sides."""

from untoldgames.aims import check_aim, is_reached, missed_case
from untoldgames.errors import NoChoice, NotFresh, TooMany
from untoldgames.halls import is_fresh
from untoldgames.kinds import is_side
from untoldgames.played import check_rows, is_turn

MOST_NAMES = 12


def check_fresh(hall):
    """Raises NotFresh for a hall that is not fresh."""
    if not is_fresh(hall):
        raise NotFresh()


def boards_at(hall, name, side):
    """The lot of the boards of a name at which the guest sits at a side."""
    return tuple([at for at, board in enumerate(hall.boards) if board[:2] == (name, side)])


def two_sided(hall):
    """The ascending list of the names at both sides of whose game the guest sits."""
    check_fresh(hall)
    return [name for name in hall.names if boards_at(hall, name, 0) and boards_at(hall, name, 1)]


def side_switches(hall, names):
    """For each of some names a switch between the boards at its side 0, and those at its side 1."""
    return [(boards_at(hall, name, 0), boards_at(hall, name, 1)) for name in names]


def case_choice(names, case):
    """The choice of the sides for some names that is told by the bits of a case of their switches."""
    return tuple([(name, case >> at & 1) for at, name in enumerate(names)])


def choice_boards(hall, choice):
    """The lot of the boards of a choice."""
    return tuple([at for at, board in enumerate(hall.boards) if board[:2] in choice])


def is_choice(names, thing):
    """Tells whether a thing is a choice for some names, which are told ascending."""
    if not isinstance(thing, tuple) or len(thing) != len(names):
        return False
    if not all([isinstance(item, tuple) and len(item) == 2 for item in thing]):
        return False
    return all([item[0] == name and is_side(item[1]) for item, name in zip(thing, names)])


def met_spoiler(hall, aim):
    """A choice for all two-sided names by whose boards an aim is not reached, or None."""
    names = two_sided(hall)
    check_aim(hall, aim)
    if len(names) > MOST_NAMES:
        raise TooMany(MOST_NAMES)
    case = missed_case(aim, side_switches(hall, names), len(hall.boards))
    return None if case is None else case_choice(names, case)


def is_met_spoiler(hall, aim, thing):
    """Tells whether a thing is a choice for all two-sided names by whose boards an aim is not reached."""
    names = two_sided(hall)
    check_aim(hall, aim)
    return is_choice(names, thing) and not is_reached(aim, choice_boards(hall, thing), len(hall.boards))


def longest_beyond(hall, name, rows, row):
    """The longest of the rows of the boards of a name that go on behind a row, the first one of several, or None."""
    found = None
    for board, other in zip(hall.boards, rows):
        if board[0] == name and len(other) > len(row) and other[:len(row)] == row:
            if found is None or len(other) > len(found):
                found = other
    return found


def evened(hall, rows):
    """The move by which a guest keeps the boards of two-sided names even, or None."""
    names = two_sided(hall)
    check_rows(hall, rows)
    for at, board in enumerate(hall.boards):
        row = rows[at]
        if board[0] in names and is_turn(board, row):
            longer = longest_beyond(hall, board[0], rows, row)
            if longer is not None:
                return (at, longer[len(row)])
    return None


def met_games(hall, choice):
    """Games by which no guest wins more than the boards of a choice against masters who answer when they can."""
    names = two_sided(hall)
    if not is_choice(names, choice):
        raise NoChoice()
    told = dict(choice)
    games = {}
    for name in hall.names:
        # At a name that is not two-sided the side of the master wins.
        winning = told.get(name, 1 if boards_at(hall, name, 0) else 0)
        games[name] = ((), ("a",)) if winning == 0 else ((),)
    return games
