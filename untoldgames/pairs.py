"""Pairs: boards of which one can be won by copying, and how they can be taken together."""

from untoldgames.errors import NoPairing, TooMany
from untoldgames.kinds import is_ascending, is_integer

MOST_BOARDS = 24
MOST_PAIRINGS = 2000


def are_pair(one, other):
    """Tells whether two boards are a pair."""
    if one[0] != other[0] or one[1] == other[1]:
        return False
    shorter, longer = (one, other) if len(one[2]) <= len(other[2]) else (other, one)
    if shorter[2] == longer[2]:
        return True
    # The word more can only be copied if it was not the guest who played it there.
    return longer[2][:-1] == shorter[2] and len(shorter[2]) % 2 != longer[1]


def pairs_of(boards):
    """The ascending list of all pairs of some boards, perhaps none."""
    found = []
    for one in range(len(boards)):
        found.extend([(one, other) for other in range(one + 1, len(boards)) if are_pair(boards[one], boards[other])])
    return found


def pairs(hall):
    """The ascending list of all pairs of boards of a hall."""
    return pairs_of(hall.boards)


def are_apart(couples):
    """Tells whether no board is in two of some pairs."""
    boards = [board for couple in couples for board in couple]
    return len(set(boards)) == len(boards)


def is_couple(thing, couples):
    """Tells whether a thing is a pair that is a key of couples."""
    if not isinstance(thing, tuple) or len(thing) != 2:
        return False
    # To Python flags are like numbers, also as keys, but here they are none.
    return is_integer(thing[0]) and is_integer(thing[1]) and thing in couples


def is_pairing_of(couples, thing):
    """Tells whether a thing is a pairing of pairs that are all in a list."""
    known = {couple: True for couple in couples}
    if not isinstance(thing, tuple) or not all([is_couple(item, known) for item in thing]):
        return False
    return is_ascending(thing) and are_apart(thing)


def is_pairing(hall, thing):
    """Tells whether a thing is a pairing of a hall."""
    return is_pairing_of(pairs(hall), thing)


def check_pairing(hall, pairing):
    """Raises NoPairing for what is no pairing of a hall."""
    if not is_pairing(hall, pairing):
        raise NoPairing()


def partners_of(pairing):
    """A dict from each board of a pairing to the other one of its pair."""
    partners = {}
    for one, other in pairing:
        partners[one] = other
        partners[other] = one
    return partners


def clashes_of(couples):
    """For each of some pairs a number with the bits of all that share a board with it, itself among them."""
    clashes = []
    for one in couples:
        clashes.append(sum([1 << at for at, other in enumerate(couples) if one[0] in other or one[1] in other]))
    return clashes


def filled(chosen, clashes):
    """The bits of some pairs, and of all that can be added one behind another, the first ones first."""
    for at, clash in enumerate(clashes):
        if chosen & clash == 0:
            chosen = chosen | (1 << at)
    return chosen


def greatest_pairings(couples):
    """The ascending list of all greatest pairings of an ascending list of pairs."""
    clashes = clashes_of(couples)
    first = filled(0, clashes)
    found = {first: True}
    waiting = [first]
    # From each greatest pairing one comes to others by forcing in a pair, keeping what stands ahead of it and does
    # not clash, and filling up. All are found so: Johnson, Yannakakis, Papadimitriou, "On generating all maximal
    # independent sets", 1988.
    while waiting:
        chosen = waiting.pop()
        for at, clash in enumerate(clashes):
            ahead = chosen & ((1 << at) - 1)
            other = filled((ahead & ~clash) | (1 << at), clashes)
            if other not in found:
                found[other] = True
                waiting.append(other)
                if len(found) > MOST_PAIRINGS:
                    raise TooMany(MOST_PAIRINGS)
    return sorted([tuple([couple for at, couple in enumerate(couples) if bits >> at & 1]) for bits in found])


def check_boards(hall):
    """Raises TooMany for a hall of more than 24 boards."""
    if len(hall.boards) > MOST_BOARDS:
        raise TooMany(MOST_BOARDS)


def pairings(hall):
    """The ascending list of all greatest pairings of a hall."""
    check_boards(hall)
    return greatest_pairings(pairs(hall))
