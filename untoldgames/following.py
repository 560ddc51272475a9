"""Following: when a goal in one hall is gained by copying alone from whoever reaches an aim in another one."""

from untoldgames.aims import check_aim, dual_of, moved_aim
from untoldgames.halls import joined, turned
from untoldgames.meeting import check_fresh
from untoldgames.pairs import check_boards, check_pairing, is_pairing, partners_of
from untoldgames.verdicts import spoiler, sure_pairing


def between(one, other):
    """The hall in which the guest sits who makes use of whoever sits in the one for the other one."""
    return joined(turned(one), other)


def wanted(one, aim, other, goal):
    """The aim of this guest: that the aim is not reached in the one, or the goal is in the other one."""
    check_aim(one, aim)
    check_aim(other, goal)
    return ("some", (dual_of(aim), moved_aim(goal, len(one.boards))))


def following(one, aim, other, goal):
    """A pairing by which the goal in the other hall follows from the aim in the one, or None."""
    both = wanted(one, aim, other, goal)
    return sure_pairing(between(one, other), both)


def is_following(one, aim, other, goal, thing):
    """Tells whether a thing is a pairing by which the goal in the other hall follows from the aim in the one."""
    both = wanted(one, aim, other, goal)
    hall = between(one, other)
    check_boards(hall)
    return is_pairing(hall, thing) and spoiler(both, thing, len(hall.boards)) is None


def alike(one, aim, other, goal):
    """The pair of two such pairings, there and back, or None if one of both is lacking."""
    there = following(one, aim, other, goal)
    back = following(other, goal, one, aim)
    return None if there is None or back is None else (there, back)


def far_end(start, turn, partners, inner):
    """Where one comes from a board by two pairings in turn, as long as one is in the inner hall; None if nowhere.

    partners has a dict for each pairing, turn tells which one is the first, inner is the pair of the number of the
    first board of the inner hall and the one behind its last.
    """
    at = partners[turn].get(start)
    while at is not None and inner[0] <= at < inner[1]:
        turn = 1 - turn
        at = partners[turn].get(at)
    return at


def chained(one, other, third, first, second):
    """The pairing between the one hall and the third that two pairings, by way of the other one, make together."""
    for hall in (one, other, third):
        check_fresh(hall)
    check_pairing(between(one, other), first)
    check_pairing(between(other, third), second)
    # The boards are numbered here through all three halls.
    low, high = len(one.boards), len(one.boards) + len(other.boards)
    moved_second = [(left + low, right + low) for left, right in second]
    partners = (partners_of(first), partners_of(moved_second))
    starts = [(at, 0) for at in range(low)] + [(at + high, 1) for at in range(len(third.boards))]
    found = []
    for start, turn in starts:
        end = far_end(start, turn, partners, (low, high))
        if end is not None and start < end:
            found.append(tuple([at if at < low else at - len(other.boards) for at in (start, end)]))
    return tuple(sorted(found))
