"""Sorts of games: those that are told ahead, those at which one master is met, and strange ones."""

from untoldgames.aims import (
    BLOCK, aided_aim, aim_cases, block_cases, blocks_of, case_lot, check_aim, has_less, is_reached, minimal_lots,
    missed_case, whole_block)
from untoldgames.errors import NoSorts, TooMany
from untoldgames.meeting import case_choice, check_fresh, choice_boards, is_choice, side_switches, two_sided
from untoldgames.pairs import check_boards, greatest_pairings, is_pairing_of, pairings, pairs
from untoldgames.verdicts import is_outcome, pair_switches

# Not more than BLOCK, as missed_choices needs it.
MOST_NAMES = 8


def are_sorts(hall, thing):
    """Tells whether a thing is sorts for a hall."""
    if not isinstance(thing, dict) or len(thing) != len(hall.names):
        return False
    return all([name in thing and thing[name] in ("told", "met", "strange") for name in hall.names])


def check_sorts(hall, aim, sorts):
    """Raises what is wrong with a hall, an aim or sorts; not for how many pairings there are."""
    check_fresh(hall)
    check_aim(hall, aim)
    if not are_sorts(hall, sorts):
        raise NoSorts()
    if len([name for name in two_sided(hall) if sorts[name] != "strange"]) > MOST_NAMES:
        raise TooMany(MOST_NAMES)
    check_boards(hall)


def names_of_sort(hall, sorts, sort):
    """The ascending list of the two-sided names of a sort."""
    return [name for name in two_sided(hall) if sorts[name] == sort]


def strange_pairs(hall, known):
    """The ascending list of the pairs of a hall but for those of some names."""
    return [(one, other) for one, other in pairs(hall) if hall.boards[one][0] not in known]


def known_names(sorts):
    """The names that are not strange."""
    return [name for name in sorts if sorts[name] != "strange"]


def folded(cases, count, kept):
    """From the bits of all cases of so many switches those of the first ones: 1 if any case of the others has it."""
    for at in range(count - 1, kept - 1, -1):
        width = 1 << at
        cases = (cases | (cases >> width)) & ((1 << width) - 1)
    return cases


def missed_choices(aim, told, others, many):
    """The cases of told switches, as bits, with which an aim is missed in some case of the other ones."""
    switches = told + others
    whole = whole_block(switches)
    missed = 0
    for block in range(blocks_of(switches)):
        cases = whole ^ aim_cases(aim, block_cases(switches, block, many), whole)
        missed = missed | folded(cases, min(len(switches), BLOCK), len(told))
    return missed


def told_pairings(hall, aim, told, met, greatest):
    """For the cases of some told names a pairing by which an aim is sure then, wherever there is one.

    It is one of the greatest pairings that are passed; masters choose the sides for the names at which one is met.
    """
    told_switches, met_switches = side_switches(hall, told), side_switches(hall, met)
    choices = 1 << len(told)
    found = {}
    for pairing in greatest:
        others = met_switches + pair_switches(pairing)
        missed = missed_choices(aim, told_switches, others, len(hall.boards))
        for case in range(choices):
            if missed >> case & 1 == 0:
                found.setdefault(case, pairing)
        if len(found) == choices:
            break
    return found


def lost_book(hall, aim, met, greatest):
    """For each of some pairings a choice for the met names and an outcome by which an aim is missed."""
    met_switches = side_switches(hall, met)
    book = {}
    for pairing in greatest:
        switches = pair_switches(pairing)
        case = missed_case(aim, met_switches + switches, len(hall.boards))
        book[pairing] = (case_choice(met, case), case_lot(switches, case >> len(met)))
    return book


def mixed(hall, aim, sorts):
    """Whether an aim is sure where some games are told and at some one master is met, with what shows it."""
    check_sorts(hall, aim, sorts)
    greatest = greatest_pairings(strange_pairs(hall, known_names(sorts)))
    told, met = names_of_sort(hall, sorts, "told"), names_of_sort(hall, sorts, "met")
    found = told_pairings(hall, aim, told, met, greatest)
    for case in range(1 << len(told)):
        if case not in found:
            choice = case_choice(told, case)
            return ("lost", choice, lost_book(hall, aided_aim(aim, choice_boards(hall, choice)), met, greatest))
    return ("sure", {case_choice(told, case): found[case] for case in found})


def is_sure_book(hall, aim, sorts, thing):
    """Tells whether a thing can stand behind "sure"."""
    told, met = names_of_sort(hall, sorts, "told"), names_of_sort(hall, sorts, "met")
    if not isinstance(thing, dict) or len(thing) != 1 << len(told):
        return False
    couples = strange_pairs(hall, known_names(sorts))
    met_switches = side_switches(hall, met)
    for choice, pairing in thing.items():
        if not is_choice(told, choice) or not is_pairing_of(couples, pairing):
            return False
        left = aided_aim(aim, choice_boards(hall, choice))
        if missed_case(left, met_switches + pair_switches(pairing), len(hall.boards)) is not None:
            return False
    return True


def is_lost_page(hall, aim, met, pairing, thing):
    """Tells whether a thing is a choice for the met names and an outcome of a pairing by which an aim is missed."""
    if not isinstance(thing, tuple) or len(thing) != 2:
        return False
    choice, outcome = thing
    many = len(hall.boards)
    if not is_choice(met, choice) or not is_outcome(pairing, outcome, many):
        return False
    return not is_reached(aim, choice_boards(hall, choice) + outcome, many)


def is_lost_book(hall, aim, sorts, greatest, thing):
    """Tells whether a thing can stand behind "lost" and a choice with whose boards an aim is aided already."""
    if not isinstance(thing, dict) or len(thing) != len(greatest):
        return False
    couples = strange_pairs(hall, known_names(sorts))
    met = names_of_sort(hall, sorts, "met")
    wanted = {pairing: True for pairing in greatest}
    for pairing, page in thing.items():
        if not is_pairing_of(couples, pairing) or pairing not in wanted:
            return False
        if not is_lost_page(hall, aim, met, pairing, page):
            return False
    return True


def is_mixed(hall, aim, sorts, thing):
    """Tells whether a thing is what mixed can tell."""
    check_sorts(hall, aim, sorts)
    greatest = greatest_pairings(strange_pairs(hall, known_names(sorts)))
    if not isinstance(thing, tuple) or len(thing) not in (2, 3):
        return False
    if len(thing) == 2:
        return thing[0] == "sure" and is_sure_book(hall, aim, sorts, thing[1])
    if thing[0] != "lost" or not is_choice(names_of_sort(hall, sorts, "told"), thing[1]):
        return False
    left = aided_aim(aim, choice_boards(hall, thing[1]))
    return is_lost_book(hall, left, sorts, greatest, thing[2])


def is_sure_if_told(hall, aim, told):
    """Tells whether an aim is sure if just these names are told, and all others strange."""
    greatest = greatest_pairings(strange_pairs(hall, told))
    return len(told_pairings(hall, aim, told, [], greatest)) == 1 << len(told)


def least_told(hall, aim):
    """The ascending list of the least tuples of names such that an aim is sure if these are told."""
    names = two_sided(hall)
    check_aim(hall, aim)
    if len(names) > MOST_NAMES:
        raise TooMany(MOST_NAMES)
    # Only for what it raises: with names that are told there are never more pairings.
    pairings(hall)
    flags = []
    for case in range(1 << len(names)):
        told = [name for at, name in enumerate(names) if case >> at & 1]
        flags.append(has_less(flags, case, len(names)) or is_sure_if_told(hall, aim, told))
    return [tuple([names[at] for at in lot]) for lot in minimal_lots(flags, len(names))]
