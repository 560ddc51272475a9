"""The house: which boards are enough, which pairs must be barred, which seats exchanged."""

from untoldgames.aims import check_aim, check_few_boards, has_less, minimal_lots, reached_flags
from untoldgames.errors import NoPrices, TooMany
from untoldgames.halls import hall_of
from untoldgames.kinds import are_numbers
from untoldgames.pairs import are_apart, pairs
from untoldgames.verdicts import spoiler

MOST_PRICE = 10 ** 6
MOST_PAIRS = 12
MOST_TURNED = 10


def sure_cases(couples, flags, aid):
    """A dict that has as keys the boards, as bits, of the pairings of some pairs by each of whose outcomes all is well.

    flags tells for the bits of each lot whether it is; aid has the bits of boards in no pair that are won anyway.
    Pairings are left out that have such a lesser one in them.
    """
    found = {}
    # What waits is a pairing: the number of the first pair that may be added, the bits of its boards, its outcomes.
    waiting = [(0, 0, [aid])]
    while waiting:
        first, taken, outcomes = waiting.pop()
        if all([flags[won] for won in outcomes]):
            found[taken] = True
            continue
        for at in range(first, len(couples)):
            one, other = 1 << couples[at][0], 1 << couples[at][1]
            if taken & (one | other) == 0:
                longer = [won | one for won in outcomes] + [won | other for won in outcomes]
                waiting.append((at + 1, taken | one | other, longer))
    return found


def enough_flags(couples, aim, many):
    """For each lot of many boards, by its bits, whether a pairing of some pairs within it is sure of an aim."""
    found = sure_cases(couples, reached_flags(aim, many), 0)
    flags = []
    for case in range(1 << many):
        flags.append(case in found or has_less(flags, case, many))
    return flags


def least_left(flags, many):
    """The ascending list of the least lots without which nothing is left that is enough, as flags tell of the bits."""
    # The lot of all others has the bits the other way round, so what is left without a lot stands mirrored.
    return minimal_lots([not flag for flag in flags[::-1]], many)


def enough(hall, aim):
    """The ascending list of the least lots of boards within which a pairing is sure of an aim."""
    check_aim(hall, aim)
    check_few_boards(hall)
    many = len(hall.boards)
    return minimal_lots(enough_flags(pairs(hall), aim, many), many)


def check_prices(hall, prices):
    """Raises NoPrices for what is no prices for the boards of a hall."""
    if not are_numbers(prices, len(hall.boards), MOST_PRICE):
        raise NoPrices()


def cheapest_of(lots, prices):
    """The least sum of prices of one of some lots, and the least such lot; None if there is none."""
    priced = [(sum([prices[board] for board in lot]), lot) for lot in lots]
    return min(priced) if priced else None


def cheapest(hall, aim, prices):
    """The least sum of prices of a lot that is enough, and the least such lot; None if there is none."""
    check_aim(hall, aim)
    check_prices(hall, prices)
    return cheapest_of(enough(hall, aim), prices)


def is_sure_of(hall, aim, couples):
    """Tells whether some pairs are a pairing that is sure of an aim."""
    return are_apart(couples) and spoiler(aim, tuple(couples), len(hall.boards)) is None


def bars(hall, aim):
    """The ascending list of the least lots of pairs without which no pairing is sure of an aim."""
    check_aim(hall, aim)
    couples = pairs(hall)
    many = len(couples)
    if many > MOST_PAIRS:
        raise TooMany(MOST_PAIRS)
    # For each set of pairs, as bits, whether a pairing of such pairs is sure.
    flags = []
    for case in range(1 << many):
        chosen = [couple for at, couple in enumerate(couples) if case >> at & 1]
        flags.append(has_less(flags, case, many) or is_sure_of(hall, aim, chosen))
    return least_left(flags, many)


def exchanged(hall, case):
    """The hall with the guest at the other side of the boards that are told by the bits of a case."""
    boards = [(name, side ^ (case >> at & 1), begun) for at, (name, side, begun) in enumerate(hall.boards)]
    return hall_of(tuple(boards))


def turns(hall, aim):
    """The ascending list of the least lots of boards at which the guest must change sides to be sure of an aim."""
    check_aim(hall, aim)
    many = len(hall.boards)
    # So few boards have fewer than 2000 pairings, however they stand: TooMany of these is never due.
    if many > MOST_TURNED:
        raise TooMany(MOST_TURNED)
    reaching = reached_flags(aim, many)
    flags = []
    for case in range(1 << many):
        # Where a lesser part is such a lot the case cannot be one; what counts is only that it has one in it.
        flags.append(has_less(flags, case, many) or len(sure_cases(pairs(exchanged(hall, case)), reaching, 0)) > 0)
    return minimal_lots(flags, many)
