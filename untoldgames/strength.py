"""Strength: the strongest aims that are sure, and what makes up for it where an aim is not."""

from untoldgames.aims import check_aim, check_few_boards, has_less, minimal_lots, reached_blocks, reached_flags
from untoldgames.errors import TooMany
from untoldgames.house import cheapest_of, check_prices, sure_cases
from untoldgames.kinds import is_lot
from untoldgames.meeting import boards_at, two_sided
from untoldgames.pairs import pairings, pairs

MOST_AIDED = 10


def strongest(hall):
    """The list of the strongest aims that are sure, one for each greatest pairing."""
    return [("all", tuple([("some", couple) for couple in pairing])) for pairing in pairings(hall)]


def gives(hall, aim, other):
    """Tells whether each lot that reaches an aim reaches the other one, too."""
    check_aim(hall, aim)
    check_aim(hall, other)
    check_few_boards(hall)
    many = len(hall.boards)
    found = reached_blocks(other, many)
    return all([cases & ~found[at] == 0 for at, cases in enumerate(reached_blocks(aim, many))])


def strongest_met(hall):
    """The strongest aim that is sure if one and the same master sits at each side."""
    parts = []
    for name in two_sided(hall):
        parts.append(("some", (("all", boards_at(hall, name, 0)), ("all", boards_at(hall, name, 1)))))
    return ("all", tuple(parts))


def check_aided(hall, aim):
    """Raises what is wrong with an aim, or with how many boards a hall has, where handicaps are asked for."""
    check_aim(hall, aim)
    if len(hall.boards) > MOST_AIDED:
        raise TooMany(MOST_AIDED)


def is_aided(couples, reaching, aid):
    """Tells whether it is enough that the boards whose bits are in aid are won anyway.

    reaching tells for the bits of each lot whether it reaches the aim.
    """
    others = [(one, other) for one, other in couples if aid >> one & 1 == 0 and aid >> other & 1 == 0]
    return len(sure_cases(others, reaching, aid)) > 0


def is_handicap(hall, aim, thing):
    """Tells whether a thing is a handicap for an aim."""
    check_aided(hall, aim)
    many = len(hall.boards)
    if not is_lot(thing, many):
        return False
    return is_aided(pairs(hall), reached_flags(aim, many), sum([1 << board for board in thing]))


def handicaps(hall, aim):
    """The ascending list of the handicaps for an aim of which no board can be left out."""
    check_aided(hall, aim)
    many = len(hall.boards)
    couples = pairs(hall)
    reaching = reached_flags(aim, many)
    # With more boards won anyway a handicap stays one: what their pairs would give is lost, but they are won.
    flags = []
    for case in range(1 << many):
        flags.append(has_less(flags, case, many) or is_aided(couples, reaching, case))
    return minimal_lots(flags, many)


def cheapest_handicap(hall, aim, prices):
    """The least sum of prices of a handicap, and the least such lot; None if there is none."""
    check_aim(hall, aim)
    check_prices(hall, prices)
    return cheapest_of(handicaps(hall, aim), prices)
