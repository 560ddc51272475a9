"""Relays: several guests at the boards of a hall, who hand words on to one another, and all need time."""

from untoldgames.aims import check_aim, check_few_boards, has_less, minimal_lots
from untoldgames.errors import NoBoard, NoRelay, TooMany
from untoldgames.house import enough_flags, least_left
from untoldgames.kinds import are_numbers, is_within
from untoldgames.meeting import check_fresh
from untoldgames.pairs import check_boards, greatest_pairings, is_pairing_of, pairs
from untoldgames.verdicts import spoiler, sure_among

MOST_GUEST = 23
MOST_LINES = 60
MOST_TICKS = 10 ** 6
MOST_LIMIT = 10 ** 7
MOST_DELAY = 10 ** 7
MOST_TRIED = 10


def are_lines(thing):
    """Tells whether a thing can be the lines of a relay."""
    if not isinstance(thing, dict) or len(thing) > MOST_LINES:
        return False
    if not all([are_numbers(line, 2, MOST_GUEST) and line[0] != line[1] for line in thing]):
        return False
    return all([is_within(ticks, 0, MOST_TICKS) for ticks in thing.values()])


def are_limits(thing, many):
    """Tells whether a thing can be the limits of a relay for many boards."""
    return isinstance(thing, tuple) and len(thing) == many and all([are_numbers(pair, 2, MOST_LIMIT) for pair in thing])


def is_relay(hall, thing):
    """Tells whether a thing is a relay for a hall."""
    if not isinstance(thing, tuple) or len(thing) != 3:
        return False
    seats, lines, limits = thing
    many = len(hall.boards)
    return are_numbers(seats, many, MOST_GUEST) and are_lines(lines) and are_limits(limits, many)


def check_relay(hall, relay):
    """Raises NoRelay for what is no relay for a hall."""
    if not is_relay(hall, relay):
        raise NoRelay()


def ways_from(lines, start):
    """For each guest to whom words come from one guest a triple: in how many ticks, by how many guests, and by whom.

    It is the least such triple, so the way of fewest guests of those of least time, and the least one of these.
    """
    ways = {start: (0, 1, (start,))}
    changed = True
    # What is put behind two ways leaves their order as it is, so each guest's best way begins with best ways, and is
    # found when nothing gets better by one more line.
    while changed:
        changed = False
        for (giver, taker), ticks in lines.items():
            if giver in ways:
                time, many, way = ways[giver]
                longer = (time + ticks, many + 1, way + (taker,))
                if taker not in ways or longer < ways[taker]:
                    ways[taker] = longer
                    changed = True
    return ways


def way_between(hall, relay, one, other):
    """What ways_from tells of the way from the guest of a board to that of another one, or None if there is none."""
    check_fresh(hall)
    check_relay(hall, relay)
    for board in (one, other):
        if not is_within(board, 0, len(hall.boards) - 1):
            raise NoBoard()
    seats, lines, _ = relay
    return ways_from(lines, seats[one]).get(seats[other])


def hand_time(hall, relay, one, other):
    """In how many ticks a word comes from the guest of a board to that of another one, or None if it cannot."""
    found = way_between(hall, relay, one, other)
    return None if found is None else found[0]


def hand_way(hall, relay, one, other):
    """By way of which guests a word comes from the guest of a board to that of another one, or None if it cannot."""
    found = way_between(hall, relay, one, other)
    return None if found is None else found[2]


def can_stand(relay, ways, one, other):
    """Tells whether a pair of boards can stand in a relay, by what ways_from tells of each guest that sits there."""
    seats, _, limits = relay
    there, back = ways[seats[one]].get(seats[other]), ways[seats[other]].get(seats[one])
    if there is None or back is None:
        return False
    both = there[0] + back[0]
    return limits[one][0] >= limits[other][1] + both and limits[other][0] >= limits[one][1] + both


def standing_pairs(hall, relay):
    """The ascending list of the pairs that can stand in what is surely a relay, but that its lines may be slower."""
    seats, lines, _ = relay
    ways = {guest: ways_from(lines, guest) for guest in seats}
    return [(one, other) for one, other in pairs(hall) if can_stand(relay, ways, one, other)]


def standing(hall, relay):
    """The ascending list of the pairs that can stand in a relay."""
    check_fresh(hall)
    check_relay(hall, relay)
    return standing_pairs(hall, relay)


def check_relayed(hall, aim, relay):
    """Raises what is wrong with a hall, an aim or a relay."""
    check_fresh(hall)
    check_aim(hall, aim)
    check_relay(hall, relay)


def greatest_standing(hall, relay):
    """The ascending list of the greatest pairings of pairs that can stand in what is surely a relay."""
    check_boards(hall)
    return greatest_pairings(standing_pairs(hall, relay))


def sure_relayed(hall, aim, relay):
    """A pairing of pairs that can stand in a relay by each of whose outcomes an aim is reached, or None."""
    check_relayed(hall, aim, relay)
    return sure_among(greatest_standing(hall, relay), aim, len(hall.boards))


def is_sure_relayed(hall, aim, relay, thing):
    """Tells whether a thing is a pairing of pairs that can stand in a relay by which an aim is sure."""
    check_relayed(hall, aim, relay)
    check_boards(hall)
    return is_pairing_of(standing_pairs(hall, relay), thing) and spoiler(aim, thing, len(hall.boards)) is None


def is_still_sure(aim, greatest, couples, many):
    """Tells whether an aim is sure by some of the pairs of which the greatest pairings are passed."""
    known = {couple: True for couple in couples}
    # Each pairing of these pairs is part of a greatest one of all of them.
    left = sorted({tuple([couple for couple in pairing if couple in known]) for pairing in greatest})
    return sure_among(left, aim, many) is not None


def least_lines(hall, aim, relay):
    """The ascending list of the least tuples of lines with which alone an aim is still sure."""
    check_relayed(hall, aim, relay)
    seats, lines, limits = relay
    known = sorted(lines)
    many = len(known)
    if many > MOST_TRIED:
        raise TooMany(MOST_TRIED)
    greatest = greatest_standing(hall, relay)
    if sure_among(greatest, aim, len(hall.boards)) is None:
        return []
    # Many sets of lines leave the same pairs, which need to be judged only once.
    verdicts = {}
    flags = []
    for case in range(1 << many):
        left = {line: lines[line] for at, line in enumerate(known) if case >> at & 1}
        couples = tuple(standing_pairs(hall, (seats, left, limits)))
        if couples not in verdicts:
            is_sure_less = has_less(flags, case, many)
            verdicts[couples] = is_sure_less or is_still_sure(aim, greatest, couples, len(hall.boards))
        flags.append(verdicts[couples])
    return [tuple([known[at] for at in lot]) for lot in minimal_lots(flags, many)]


def is_sure_delayed(hall, aim, relay, greatest, ticks):
    """Tells whether an aim is still sure if each line of a relay takes so many ticks longer."""
    seats, lines, limits = relay
    slower = {line: lines[line] + ticks for line in lines}
    return is_still_sure(aim, greatest, standing_pairs(hall, (seats, slower, limits)), len(hall.boards))


def delay(hall, aim, relay):
    """The greatest number of ticks by which each line may take longer with an aim still sure; -1 if it is not sure."""
    check_relayed(hall, aim, relay)
    greatest = greatest_standing(hall, relay)
    if sure_among(greatest, aim, len(hall.boards)) is None:
        return -1
    # It is sure with low ticks more, and not sure with those above high.
    low, high = 0, MOST_DELAY
    while low < high:
        middle = (low + high + 1) // 2
        if is_sure_delayed(hall, aim, relay, greatest, middle):
            low = middle
        else:
            high = middle - 1
    return low


def slow_boards(hall, aim, relay):
    """The ascending list of the least lots of boards such that an aim is not sure by pairs without these boards."""
    check_relayed(hall, aim, relay)
    check_few_boards(hall)
    # Only for what it raises.
    greatest_standing(hall, relay)
    many = len(hall.boards)
    return least_left(enough_flags(standing_pairs(hall, relay), aim, many), many)
