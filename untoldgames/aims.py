"""Aims: which boards are to be won, and by what lots of boards they are reached."""

from untoldgames.errors import NoAim, NoLot, NoNumber, TooMany
from untoldgames.kinds import is_integer, is_lot, is_within

MOST_NUMBER = 10 ** 6
MOST_MOVED = 1000
MOST_PARTS = 24
MOST_LEAST = 25
MOST_DEEP = 8
MOST_AIMS = 200
MOST_BOARDS = 12
# So many switches are told by the bits of one number, which has 2 ** BLOCK bits then.
BLOCK = 10


def parts_of(thing):
    """The tuple of what should be the parts of an aim that is no number, or None if it cannot be one."""
    if not isinstance(thing, tuple) or len(thing) not in (2, 3) or not isinstance(thing[0], str):
        return None
    if len(thing) == 2 and thing[0] not in ("all", "some"):
        return None
    if len(thing) == 3 and not (thing[0] == "least" and is_within(thing[1], 0, MOST_LEAST)):
        return None
    parts = thing[-1]
    return parts if isinstance(parts, tuple) and len(parts) <= MOST_PARTS else None


def size_of(thing, most_number, deep):
    """How many aims are in an aim that is at most so deep, itself counted, or 0 for what is none or too large."""
    if is_integer(thing):
        return 1 if deep > 0 and 0 <= thing <= most_number else 0
    parts = parts_of(thing)
    if parts is None or deep == 0:
        return 0
    size = 1
    for part in parts:
        added = size_of(part, most_number, deep - 1)
        size += added
        if added == 0 or size > MOST_AIMS:
            return 0
    return size


def is_aim(hall, thing):
    """Tells whether a thing is an aim for a hall."""
    return size_of(thing, min(len(hall.boards) - 1, MOST_NUMBER), MOST_DEEP) > 0


def is_any_aim(thing):
    """Tells whether a thing is an aim of any hall."""
    return size_of(thing, MOST_NUMBER, MOST_DEEP) > 0


def check_aim(hall, aim):
    """Raises NoAim for what is no aim for a hall."""
    if not is_aim(hall, aim):
        raise NoAim()


def check_few_boards(hall):
    """Raises TooMany for a hall of more boards than all lots are gone through of."""
    if len(hall.boards) > MOST_BOARDS:
        raise TooMany(MOST_BOARDS)


def least_needed(aim):
    """How many of its parts must be reached for an aim that is no number."""
    if aim[0] == "least":
        return aim[1]
    return len(aim[-1]) if aim[0] == "all" else 1


def cases_with_least(parts, least, whole):
    """The cases in which at least so many of some parts are reached, each part told by its cases."""
    # counted[k] has the cases in which at least k of the parts so far are reached.
    counted = [whole] + [0] * least
    for at, part in enumerate(parts):
        # Below this no count can grow to the least any more by the parts that follow.
        low = max(1, least - (len(parts) - at) + 1)
        for number in range(min(at + 1, least), low - 1, -1):
            counted[number] = counted[number] | (counted[number - 1] & part)
    return counted[least]


def aim_cases(aim, cases, whole):
    """The cases in which an aim is reached, as the bits of a number.

    cases has for each board such a number of the cases in which it is won, whole has the bits of all cases.
    """
    if is_integer(aim):
        return cases[aim]
    parts = [aim_cases(part, cases, whole) for part in aim[-1]]
    return cases_with_least(parts, least_needed(aim), whole)


def on_cases(at, count):
    """The cases, of so many switches, in which the one with this number is on: case c if the bit `at` of c is 1."""
    width = 1 << at
    cases = ((1 << width) - 1) << width
    for grown in range(at + 1, count):
        cases = cases | (cases << (1 << grown))
    return cases


def whole_block(switches):
    """The number that has the bits of all cases of one block."""
    return (1 << (1 << min(len(switches), BLOCK))) - 1


def block_cases(switches, block, many):
    """For each of many boards the cases in which it is won, as the bits of a number.

    A switch is a pair of tuples of boards: those that are won if it is off, and those if it is on. The first
    switches are on by the bits of the case, those behind BLOCK of them by the bits of block. So no number has
    more than 2 ** BLOCK bits.
    """
    count = min(len(switches), BLOCK)
    whole = whole_block(switches)
    cases = [0] * many
    for at, (off, on) in enumerate(switches):
        if at < BLOCK:
            lit = on_cases(at, count)
        else:
            lit = whole if block >> (at - BLOCK) & 1 else 0
        for board in off:
            cases[board] = cases[board] | (whole ^ lit)
        for board in on:
            cases[board] = cases[board] | lit
    return cases


def blocks_of(switches):
    """How many blocks of cases some switches have."""
    return 1 << max(0, len(switches) - BLOCK)


def missed_case(aim, switches, many):
    """The number of the first case of some switches in which an aim is not reached, or None if there is none.

    Bit k of the number tells whether the switch k is on.
    """
    whole = whole_block(switches)
    for block in range(blocks_of(switches)):
        missed = whole ^ aim_cases(aim, block_cases(switches, block, many), whole)
        if missed > 0:
            return (block << BLOCK) + (missed & -missed).bit_length() - 1
    return None


def case_lot(switches, case):
    """The lot of the boards that are won in a case of some switches."""
    return tuple(sorted({board for at, switch in enumerate(switches) for board in switch[case >> at & 1]}))


def board_switches(many):
    """Switches by each of which one of many boards is won or lost: the cases are all lots."""
    return [((), (board,)) for board in range(many)]


def reached_blocks(aim, many):
    """The list of the cases, block by block, of the switches of many boards in which an aim is reached."""
    switches = board_switches(many)
    whole = whole_block(switches)
    return [aim_cases(aim, block_cases(switches, block, many), whole) for block in range(blocks_of(switches))]


def reached_flags(aim, many):
    """For each lot of many boards a flag that tells whether it reaches an aim, by the bits of its case."""
    flags = []
    for cases in reached_blocks(aim, many):
        flags.extend([cases >> case & 1 == 1 for case in range(1 << min(many, BLOCK))])
    return flags


def has_less(flags, case, many):
    """Tells whether of the flags for the cases of many switches one is True for a case with one of them less on."""
    return any([case >> at & 1 == 1 and flags[case ^ (1 << at)] for at in range(many)])


def minimal_lots(flags, many):
    """The ascending list of the lots, told by flags for all cases of many switches, none of which can be left out.

    The flags must be such that a case is True if one is with less of the switches on.
    """
    switches = board_switches(many)
    found = [case for case, flag in enumerate(flags) if flag and not has_less(flags, case, many)]
    return sorted([case_lot(switches, case) for case in found])


def is_reached(aim, won, many):
    """Tells whether what is surely an aim is reached by a lot of many boards."""
    cases = [0] * many
    for board in won:
        cases[board] = 1
    return aim_cases(aim, cases, 1) == 1


def reached(hall, aim, won):
    """Tells whether a lot of boards that are won reaches an aim."""
    check_aim(hall, aim)
    many = len(hall.boards)
    if not is_lot(won, many):
        raise NoLot()
    return is_reached(aim, won, many)


def dual_of(aim):
    """The dual of what is surely an aim."""
    if is_integer(aim):
        return aim
    parts = tuple([dual_of(part) for part in aim[-1]])
    if aim[0] == "least":
        return ("least", max(0, len(parts) - aim[1] + 1), parts)
    return ("some" if aim[0] == "all" else "all", parts)


def dual(hall, aim):
    """The aim that is reached by a lot exactly if the given one is not reached by all the other boards."""
    check_aim(hall, aim)
    return dual_of(aim)


def aided_aim(aim, lot):
    """What is surely an aim, as it is where the boards of a lot are won anyway."""
    if is_integer(aim):
        return ("all", ()) if aim in lot else aim
    return aim[:-1] + (tuple([aided_aim(part, lot) for part in aim[-1]]),)


def numbers_in(aim):
    """The list of the boards' numbers in what is surely an aim, each as often as it stands."""
    if is_integer(aim):
        return [aim]
    return [number for part in aim[-1] for number in numbers_in(part)]


def renumbered(aim, numbers):
    """What is surely an aim, with the number that a dict tells in the place of each board's number."""
    if is_integer(aim):
        return numbers[aim]
    return aim[:-1] + (tuple([renumbered(part, numbers) for part in aim[-1]]),)


def moved_aim(aim, by):
    """What is surely an aim, with all boards' numbers so many greater."""
    return renumbered(aim, {number: number + by for number in numbers_in(aim)})


def moved(aim, by):
    """The aim, of any hall, with all boards' numbers so many greater."""
    if not is_any_aim(aim):
        raise NoAim()
    if not is_within(by, 0, MOST_MOVED) or max(numbers_in(aim), default=-1) + by > MOST_NUMBER:
        raise NoNumber()
    return moved_aim(aim, by)


def least_won(hall, aim):
    """The ascending list of the lots that reach an aim and of which no board can be left out."""
    check_aim(hall, aim)
    check_few_boards(hall)
    many = len(hall.boards)
    return minimal_lots(reached_flags(aim, many), many)


def same_aims(hall, aim, other):
    """Tells whether two aims are reached by the same lots."""
    check_aim(hall, aim)
    check_aim(hall, other)
    check_few_boards(hall)
    many = len(hall.boards)
    return reached_blocks(aim, many) == reached_blocks(other, many)
