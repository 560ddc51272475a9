"""Verdicts: whether some guest is sure of an aim, and by what."""

from untoldgames.aims import case_lot, check_aim, is_reached, missed_case
from untoldgames.kinds import is_lot
from untoldgames.pairs import check_boards, is_pairing, is_pairing_of, pairings, pairs


def pair_switches(pairing):
    """For each pair of a pairing a switch between its boards: the cases are the outcomes."""
    return [((one,), (other,)) for one, other in pairing]


def spoiler(aim, pairing, many):
    """An outcome of a pairing of many boards by which what is surely an aim is not reached, or None."""
    switches = pair_switches(pairing)
    case = missed_case(aim, switches, many)
    return None if case is None else case_lot(switches, case)


def sure_among(greatest, aim, many):
    """The first of some pairings of many boards by each of whose outcomes what is surely an aim is reached, or None."""
    for pairing in greatest:
        if spoiler(aim, pairing, many) is None:
            return pairing
    return None


def sure_pairing(hall, aim):
    """A pairing such that what is surely an aim, however deep, is reached by each of its outcomes, or None."""
    # More boards won never spoil an aim, so that the greatest pairings are enough.
    return sure_among(pairings(hall), aim, len(hall.boards))


def sure(hall, aim):
    """A pairing such that an aim is reached by each of its outcomes, or None."""
    check_aim(hall, aim)
    return sure_pairing(hall, aim)


def is_sure(hall, aim, thing):
    """Tells whether a thing is a pairing such that an aim is reached by each of its outcomes."""
    check_aim(hall, aim)
    check_boards(hall)
    return is_pairing(hall, thing) and spoiler(aim, thing, len(hall.boards)) is None


def spoilers(hall, aim):
    """A dict from all greatest pairings to an outcome of each by which an aim is not reached, or None."""
    check_aim(hall, aim)
    many = len(hall.boards)
    found = {}
    for pairing in pairings(hall):
        outcome = spoiler(aim, pairing, many)
        if outcome is None:
            return None
        found[pairing] = outcome
    return found


def is_outcome(pairing, thing, many):
    """Tells whether a thing is an outcome of a pairing of many boards."""
    if not is_lot(thing, many) or len(thing) != len(pairing):
        return False
    return all([(one in thing) != (other in thing) for one, other in pairing])


def are_spoilers(hall, aim, thing):
    """Tells whether a thing is a dict from all greatest pairings to outcomes by which an aim is not reached."""
    check_aim(hall, aim)
    greatest = {pairing: True for pairing in pairings(hall)}
    if not isinstance(thing, dict) or len(thing) != len(greatest):
        return False
    many = len(hall.boards)
    couples = pairs(hall)
    for pairing, outcome in thing.items():
        if not is_pairing_of(couples, pairing) or pairing not in greatest:
            return False
        if not is_outcome(pairing, outcome, many) or is_reached(aim, outcome, many):
            return False
    return True
