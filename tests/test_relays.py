"""20.1 to 20.3: several guests, who hand words on to one another."""

import copy
import random
import unittest

from tests.helpers import (
    LARGER, SMALLER, Case, all_pairings, chance_aim, fresh_hall, least_lots, many_pairings, odd_things, outcomes,
    reaches, same)
from untoldgames.halls import Hall, joined
from untoldgames.pairs import pairings, pairs
from untoldgames.relays import (
    delay, hand_time, hand_way, is_relay, is_sure_relayed, least_lines, slow_boards, standing, sure_relayed)
from untoldgames.verdicts import sure

NEVER = ("some", ())
ALWAYS = ("all", ())
BEGUN = Hall((("g", 0, ()), ("g", 1, ("a",))))
# Three guests at four boards; words go round by 0, 1, 2, and back from 1 to 0.
HALL = Hall((("g", 0, ()), ("g", 1, ()), ("h", 0, ()), ("h", 1, ())))
LINES = {(0, 1): 3, (1, 0): 4, (1, 2): 5, (2, 0): 0}
RELAY = ((0, 1, 2, 0), LINES, ((10, 2), (10, 3), (20, 1), (20, 20)))
ONE = fresh_hall(1, 1)


def alone(hall):
    """A relay in which one guest sits at all boards, and there is time for all."""
    many = len(hall.boards)
    return ((0,) * many, {}, ((1, 1),) * many)


def two(ticks, limits):
    """A relay of ONE with two guests and a line each way."""
    return ((0, 1), {(0, 1): ticks[0], (1, 0): ticks[1]}, limits)


def all_ways(lines, start, end):
    """All ways without a guest twice, by ticks, number of guests and guests, by going through them."""
    found = []

    def go(way, time):
        if way[-1] == end:
            found.append((time, len(way), way))
            return
        for (giver, taker), ticks in lines.items():
            if giver == way[-1] and taker not in way:
                go(way + (taker,), time + ticks)

    go((start,), 0)
    return found


def right_way(relay, one, other):
    found = all_ways(relay[1], relay[0][one], relay[0][other])
    return min(found) if found else None


def right_standing(hall, relay):
    """The pairs that can stand, straight by what the document says."""
    found = []
    for one, other in pairs(hall):
        there, back = right_way(relay, one, other), right_way(relay, other, one)
        if there is None or back is None:
            continue
        limits = relay[2]
        if all(limits[mine][0] >= limits[theirs][1] + there[0] + back[0]
               for mine, theirs in ((one, other), (other, one))):
            found.append((one, other))
    return found


def is_right(aim, pairing):
    return all(reaches(aim, outcome) for outcome in outcomes(pairing))


def is_right_by(aim, couples):
    """Whether an aim is sure by some pairing of some pairs, by going through all of them."""
    return any(is_right(aim, pairing) for pairing in all_pairings(couples))


def with_lines(relay, lines):
    return (relay[0], lines, relay[2])


def slower(relay, ticks):
    return with_lines(relay, {line: relay[1][line] + ticks for line in relay[1]})


def chance_lines(chance, guests, most, ticks=(0, 0, 1, 1, 2, 3, 5)):
    """Lines by chance between guests below a number."""
    found = {}
    for _ in range(chance.randint(0, most)):
        giver, taker = chance.randrange(guests), chance.randrange(guests)
        if giver != taker:
            found[(giver, taker)] = chance.choice(ticks)
    return found


def chance_relayed(seed, many, most_boards=6, most_lines=7):
    """So many fresh halls by chance, each with a relay and an aim."""
    chance = random.Random(seed)
    for _ in range(many):
        boards = chance.randint(1, most_boards)
        names = chance.choice(("g", "gh"))
        hall = Hall(tuple((chance.choice(names), chance.randrange(2), ()) for _ in range(boards)))
        guests = chance.choice((1, 2, 3, 3, 4))
        seats = tuple(chance.randrange(guests) for _ in range(boards))
        lines = {(at, (at + 1) % guests): chance.choice((0, 1, 2)) for at in range(guests) if guests > 1}
        lines = {**lines, **chance_lines(chance, guests, most_lines - guests, (0, 1, 1, 2, 3))}
        limits = tuple((chance.randint(4, 14), chance.randint(0, 3)) for _ in range(boards))
        numbers = tuple(range(boards))
        some = [("some", tuple(chance.choices(numbers, k=4))) for _ in range(3)]
        aim = chance.choice((
            ("least", chance.randint(1, 3), numbers), chance_aim(chance, boards), some[0], ("all", tuple(some[:2])),
            ("some", (some[0], ("all", tuple(some[1:]))))))
        yield chance, hall, (seats, lines, limits), aim


def wired(couples, many, names):
    """A hall and a relay of many boards in which just these pairs can stand, each board having a guest of its own."""
    firsts = {one for one, _ in couples}
    hall_boards = tuple((names[at], 0 if at in firsts else 1, ()) for at in range(many))
    hall = joined(Hall(hall_boards[:12]), Hall(hall_boards[12:]))
    lines = {line: 1 for one, other in couples for line in ((one, other), (other, one))}
    return hall, (tuple(range(many)), lines, ((2, 0),) * many)


def wired_2001():
    """A fresh hall of 24 boards with a relay that has 2001 greatest pairings of pairs that can stand."""
    smaller = pairs(Hall(tuple(("g", *board) for board in SMALLER)))
    larger = pairs(joined(Hall(tuple(("h", *board) for board in LARGER[:12])), Hall((("h", *LARGER[12]),))))
    couples = smaller + [(one + 11, other + 11) for one, other in larger]
    return couples, *wired(couples, 24, "g" * 11 + "h" * 13)


class IsRelay(Case):
    def test_relays(self):
        self.tells(True, is_relay(HALL, RELAY))
        self.tells(True, is_relay(ONE, alone(ONE)))
        self.tells(True, is_relay(BEGUN, alone(BEGUN)))
        large = joined(fresh_hall(12, 0), joined(fresh_hall(0, 12), fresh_hall(1, 0)))
        self.tells(True, is_relay(large, alone(large)))
        self.tells(False, is_relay(ONE, alone(HALL)))
        self.tells(False, is_relay(HALL, alone(ONE)))

    def test_bounds(self):
        right = ((0, 23), {(0, 23): 0, (23, 0): 10 ** 6}, ((0, 10 ** 7), (10 ** 7, 0)))
        self.tells(True, is_relay(ONE, right))
        every = [(one, other) for one in range(24) for other in range(24) if one != other]
        for wrong in (
                ((0, 24), *right[1:]), ((-1, 0), *right[1:]), (right[0], {(0, 24): 0}, right[2]),
                (right[0], {(-1, 0): 0}, right[2]), (right[0], {(0, 1): 10 ** 6 + 1}, right[2]),
                (right[0], {(0, 1): -1}, right[2]), (*right[:2], ((0, 10 ** 7 + 1), (0, 0))),
                (*right[:2], ((0, 0), (10 ** 7 + 1, 0))), (*right[:2], ((0, 0), (0, -1))),
                (right[0], {line: 1 for line in every[:61]}, right[2])):
            self.tells(False, is_relay(ONE, wrong))
        self.tells(True, is_relay(ONE, with_lines(right, {line: 1 for line in every[:60]})))
        self.tells(True, is_relay(ONE, with_lines(right, {})))

    def test_one_thing_bent(self):
        seats, lines, limits = ((0, 1), {(0, 1): 3, (1, 0): 4}, ((1, 2), (3, 4)))
        self.tells(True, is_relay(ONE, (seats, lines, limits)))
        bent_seats = ([0, 1], (0,), (0, 1, 1), (), (0, True), (False, 1), (0, "1"), (0, None), (0, (1,)), "01", {0: 1})
        bent_lines = (
            [((0, 1), 3)], (((0, 1), 3),), {(0, 0): 3}, {(1, 1): 0}, {(0, 1, 2): 3}, {(0,): 3}, {0: 3}, {"01": 3},
            {(0, True): 3}, {(False, 1): 3}, {(0, "1"): 3}, {(0, 1): True}, {(0, 1): False}, {(0, 1): "3"},
            {(0, 1): None}, {(0, 1): (3,)}, {(0, 1): 3, None: 3}, {(0, 1): 3, (1, 0): -1}, {((0, 1), 3): 3}, None)
        bent_limits = (
            [(1, 2), (3, 4)], ((1, 2),), ((1, 2), (3, 4), (5, 6)), (), ((1, 2), [3, 4]), ((1, 2), (3,)),
            ((1, 2), (3, 4, 5)), ((1, 2), (3, True)), ((False, 2), (3, 4)), ((1, 2), (3, "4")), ((1, 2), (3, None)),
            ((1, 2), 3), ((1, 2), {3: 4}), (1, 2), {0: (1, 2), 1: (3, 4)})
        wrong = [(one, lines, limits) for one in bent_seats] + [(seats, one, limits) for one in bent_lines]
        wrong += [(seats, lines, one) for one in bent_limits]
        wrong += [[seats, lines, limits], (seats, lines), (seats, lines, limits, limits), (lines, seats, limits), {}]
        for thing in wrong:
            self.tells(False, is_relay(ONE, thing))
            self.raises("NoRelay", {}, standing, ONE, thing)
            self.raises("NoRelay", {}, hand_time, ONE, thing, None, None)
            self.raises("NoRelay", {}, hand_way, ONE, thing, None, None)
            self.raises("NoRelay", {}, is_sure_relayed, ONE, ALWAYS, thing, ())
            for function in (sure_relayed, least_lines, delay, slow_boards):
                self.raises("NoRelay", {}, function, ONE, ALWAYS, thing)

    def test_odd(self):
        limits = ((0, 0), (0, 0))
        self.judges_odd(lambda thing: is_relay(ONE, thing))
        self.judges_odd(lambda thing: is_relay(ONE, (thing, {}, limits)), [(0, 0), (1, 0), (0, 1)])
        self.judges_odd(lambda thing: is_relay(ONE, ((0, 0), thing, limits)), [{}])
        self.judges_odd(lambda thing: is_relay(ONE, ((0, 0), {(0, 1): thing}, limits)), (0, 1, 2))
        self.judges_odd(lambda thing: is_relay(ONE, ((0, 0), {}, thing)))
        self.judges_odd(lambda thing: is_relay(ONE, ((0, 0), {}, ((0, 0), thing))), [(0, 0), (1, 0), (0, 1)])


class Hands(Case):
    def test_times_and_ways(self):
        for one, other, time, way in (
                (0, 1, 3, (0, 1)), (1, 0, 4, (1, 0)), (0, 2, 8, (0, 1, 2)), (2, 0, 0, (2, 0)), (2, 1, 3, (2, 0, 1)),
                (1, 2, 5, (1, 2)), (0, 3, 0, (0,)), (3, 0, 0, (0,)), (2, 2, 0, (2,)), (3, 1, 3, (0, 1))):
            self.tells(time, hand_time(HALL, RELAY, one, other))
            self.tells(way, hand_way(HALL, RELAY, one, other))

    def test_no_way(self):
        self.assertIsNone(hand_time(ONE, ((0, 1), {}, ((9, 0), (9, 0))), 0, 1))
        self.assertIsNone(hand_way(ONE, ((0, 1), {}, ((9, 0), (9, 0))), 0, 1))
        one_way = ((0, 1), {(0, 1): 2, (1, 2): 0, (3, 0): 0}, ((9, 0), (9, 0)))
        self.tells(2, hand_time(ONE, one_way, 0, 1))
        self.assertIsNone(hand_time(ONE, one_way, 1, 0))
        self.assertIsNone(hand_way(ONE, one_way, 1, 0))
        # A guest without lines still has its own words.
        self.tells(0, hand_time(ONE, ((5, 5), {}, ((9, 0), (9, 0))), 0, 1))
        self.tells((5,), hand_way(ONE, ((5, 5), {}, ((9, 0), (9, 0))), 0, 1))

    def test_guests_who_sit_nowhere_hand_on(self):
        relay = ((3, 7), {(3, 20): 1, (20, 23): 0, (23, 7): 2, (3, 7): 4}, ((9, 0), (9, 0)))
        self.tells(3, hand_time(ONE, relay, 0, 1))
        self.tells((3, 20, 23, 7), hand_way(ONE, relay, 0, 1))

    def test_ways_of_the_same_time(self):
        limits = ((9, 0), (9, 0))
        # Fewer guests count ahead of lesser numbers, and time ahead of both.
        self.tells((0, 9, 1), hand_way(ONE, ((0, 1), {(0, 2): 1, (2, 3): 1, (3, 1): 1, (0, 9): 2, (9, 1): 1}, limits),
                                       0, 1))
        self.tells((0, 2, 3, 1), hand_way(ONE, ((0, 1), {(0, 2): 1, (2, 3): 1, (3, 1): 1, (0, 9): 2, (9, 1): 2}, limits),
                                          0, 1))
        self.tells((0, 4, 3, 1), hand_way(ONE, ((0, 1), {
            (0, 5): 1, (5, 2): 1, (2, 1): 1, (0, 4): 0, (4, 3): 2, (3, 1): 1}, limits), 0, 1))
        self.tells((0, 2, 9, 1), hand_way(ONE, ((0, 1), {
            (0, 3): 1, (3, 4): 1, (4, 1): 1, (0, 2): 1, (2, 9): 0, (9, 1): 2}, limits), 0, 1))

    def test_lines_of_no_ticks(self):
        lines = {(0, 2): 0, (2, 0): 0, (2, 3): 0, (3, 2): 0, (3, 1): 0, (1, 3): 0, (0, 3): 0}
        relay = ((0, 1), lines, ((9, 0), (9, 0)))
        self.tells(0, hand_time(ONE, relay, 0, 1))
        self.tells((0, 3, 1), hand_way(ONE, relay, 0, 1))
        self.tells((1, 3, 2, 0), hand_way(ONE, relay, 1, 0))

    def test_long_ways(self):
        lines = {(at, at + 1): 10 ** 6 for at in range(23)}
        relay = ((0, 23), lines, ((9, 0), (9, 0)))
        self.tells(23 * 10 ** 6, hand_time(ONE, relay, 0, 1))
        self.tells(tuple(range(24)), hand_way(ONE, relay, 0, 1))
        backwards = ((23, 0), {(at + 1, at): 0 for at in range(23)}, ((9, 0), (9, 0)))
        self.tells(tuple(range(23, -1, -1)), hand_way(ONE, backwards, 0, 1))

    def test_errors(self):
        for function in (hand_time, hand_way):
            self.raises("NotFresh", {}, function, BEGUN, None, None, None)
            self.raises("NoRelay", {}, function, HALL, None, None, None)
            for board in (4, -1, 10 ** 59, True, False, None, "0", (0,), [0]):
                self.raises("NoBoard", {}, function, HALL, RELAY, board, 0)
                self.raises("NoBoard", {}, function, HALL, RELAY, 0, board)
            self.refuses_odd("NoBoard", lambda thing: function(HALL, RELAY, 1, thing), (0, 1, 2))
            self.refuses_odd("NoBoard", lambda thing: function(HALL, RELAY, thing, 1), (0, 1, 2))
            self.refuses_odd("NoRelay", lambda thing: function(HALL, thing, 0, 0))

    def test_by_chance(self):
        chance = random.Random(201)
        told = {True: 0, False: 0}
        for _ in range(400):
            guests = chance.randint(2, 6)
            hall = fresh_hall(1, 2)
            lines = chance_lines(chance, guests, 14)
            relay = (tuple(chance.randrange(guests) for _ in range(3)), lines, ((9, 0),) * 3)
            for one, other in ((0, 1), (1, 2)):
                right = right_way(relay, one, other)
                told[right is None] += 1
                self.tells(None if right is None else right[0], hand_time(hall, relay, one, other))
                self.tells(None if right is None else right[2], hand_way(hall, relay, one, other))
                turned = (relay[0], dict(reversed(list(lines.items()))), relay[2])
                self.tells(hand_way(hall, relay, one, other), hand_way(hall, turned, one, other))
        self.assertGreater(min(told.values()), 50)


class Standing(Case):
    def test_just_at_the_limit(self):
        # There and back take 7 ticks; the masters have 2 and 3.
        self.tells([(0, 1)], standing(ONE, two((3, 4), ((10, 2), (9, 3)))))
        self.tells([], standing(ONE, two((3, 4), ((9, 2), (9, 3)))))
        self.tells([], standing(ONE, two((3, 4), ((10, 2), (8, 3)))))
        self.tells([], standing(ONE, two((3, 5), ((10, 2), (9, 3)))))
        self.tells([], standing(ONE, two((4, 4), ((10, 2), (9, 3)))))
        self.tells([], standing(ONE, two((3, 4), ((10, 2), (9, 4)))))
        self.tells([], standing(ONE, two((3, 4), ((10, 3), (9, 3)))))
        # What the limits of the board itself are to one another says nothing.
        self.tells([(0, 1)], standing(ONE, two((3, 4), ((107, 100), (107, 100)))))
        self.tells([(0, 1)], standing(ONE, two((0, 0), ((0, 5), (5, 0)))))
        self.tells([(0, 1)], standing(ONE, two((0, 0), ((5, 0), (0, 5)))))
        self.tells([], standing(ONE, two((0, 0), ((5, 1), (0, 5)))))

    def test_pairs(self):
        # The pair of the boards 2 and 3 goes from the guest 2 to the guest 0 in 0 ticks, and back in 8.
        self.tells([(0, 1)], standing(HALL, RELAY))
        self.tells([(0, 1), (2, 3)], standing(HALL, RELAY[:2] + (((10, 2), (10, 3), (28, 1), (9, 20)),)))
        self.tells([(0, 1)], standing(HALL, RELAY[:2] + (((10, 2), (10, 3), (28, 1), (8, 20)),)))
        self.tells([(0, 1)], standing(HALL, RELAY[:2] + (((10, 2), (10, 3), (27, 1), (9, 20)),)))
        self.assertIsNot(standing(HALL, RELAY), standing(HALL, RELAY))

    def test_one_guest_at_several_boards(self):
        self.tells([(0, 1)], standing(ONE, ((4, 4), {}, ((3, 2), (2, 3)))))
        self.tells([], standing(ONE, ((4, 4), {}, ((2, 2), (2, 3)))))
        hall = fresh_hall(2, 2)
        self.tells([(0, 2), (1, 3)], standing(hall, ((7, 8, 7, 8), {}, ((1, 1),) * 4)))
        self.tells(pairs(hall), standing(hall, alone(hall)))

    def test_guests_without_lines(self):
        hall = fresh_hall(1, 2)
        lines = {(0, 1): 0, (1, 0): 0}
        self.tells([(0, 1)], standing(hall, ((0, 1, 2), lines, ((9, 0),) * 3)))
        # Words come there, but not back.
        self.tells([(0, 1)], standing(hall, ((0, 1, 2), {**lines, (0, 2): 0}, ((9, 0),) * 3)))
        self.tells([(0, 1), (0, 2)], standing(hall, ((0, 1, 2), {**lines, (0, 2): 0, (2, 1): 9}, ((9, 0),) * 3)))

    def test_wired(self):
        couples, hall, relay = wired_2001()
        self.tells(couples, standing(hall, relay))

    def test_errors(self):
        self.raises("NotFresh", {}, standing, BEGUN, None)
        self.refuses_odd("NoRelay", lambda thing: standing(HALL, thing))

    def test_by_chance(self):
        many = 0
        for _, hall, relay, _ in chance_relayed(202, 300):
            right = right_standing(hall, relay)
            self.tells(right, standing(hall, relay))
            many += len(right)
        self.assertGreater(many, 100)


class SureRelayed(Case):
    def test_pairings(self):
        self.tells(((0, 1),), sure_relayed(HALL, ("some", (0, 1)), RELAY))
        self.assertIsNone(sure_relayed(HALL, ("some", (2, 3)), RELAY))
        self.assertEqual(sure(HALL, ("some", (2, 3))), ((0, 1), (2, 3)))
        self.assertIsNone(sure_relayed(HALL, NEVER, RELAY))
        self.assertIsNotNone(sure_relayed(HALL, ALWAYS, RELAY))
        self.tells((), sure_relayed(ONE, ALWAYS, ((0, 1), {}, ((9, 0), (9, 0)))))
        self.assertIsNone(sure_relayed(ONE, ("some", (0, 1)), ((0, 1), {}, ((9, 0), (9, 0)))))

    def test_judged(self):
        self.tells(True, is_sure_relayed(HALL, ("some", (0, 1)), RELAY, ((0, 1),)))
        self.tells(False, is_sure_relayed(HALL, ("some", (0, 1)), RELAY, ()))
        self.tells(True, is_sure_relayed(HALL, ALWAYS, RELAY, ()))
        self.tells(True, is_sure_relayed(HALL, ALWAYS, RELAY, ((0, 1),)))
        self.tells(False, is_sure_relayed(HALL, NEVER, RELAY, ((0, 1),)))
        # A pairing of the hall with a pair that cannot stand.
        for thing in (((2, 3),), ((0, 1), (2, 3)), ((1, 0),), [(0, 1)], ([0, 1],), ((0, 1), (0, 1)), ((0, True),),
                      ((False, 1),), ((0, 2),), (0, 1), ((0, 1, 2),), {(0, 1): 1}, None):
            self.tells(False, is_sure_relayed(HALL, ALWAYS, RELAY, thing))
        self.judges_odd(lambda thing: is_sure_relayed(HALL, ALWAYS, RELAY, thing), [(), ((0, 1),)])
        self.judges_odd(lambda thing: is_sure_relayed(HALL, NEVER, RELAY, thing))

    def test_twenty_four_boards_and_one_more(self):
        full = joined(fresh_hall(12, 0), fresh_hall(0, 12))
        guests = ((*range(12), *range(12)), {}, ((1, 1),) * 24)
        pairing = tuple((at, at + 12) for at in range(12))
        aim = ("least", 12, tuple(range(24)))
        self.tells(pairing, sure_relayed(full, aim, guests))
        self.tells(True, is_sure_relayed(full, aim, guests, pairing))
        self.tells(False, is_sure_relayed(full, aim, guests, pairing[1:]))
        more = joined(full, Hall((("z", 0, ()),)))
        self.raises("TooMany", {"most": 24}, sure_relayed, more, ALWAYS, alone(more))
        self.raises("TooMany", {"most": 24}, is_sure_relayed, more, ALWAYS, alone(more), ())
        self.raises("TooMany", {"most": 24}, delay, more, ALWAYS, alone(more))
        self.raises("TooMany", {"most": 24}, least_lines, more, ALWAYS, alone(more))
        self.raises("TooMany", {"most": 12}, slow_boards, more, ALWAYS, alone(more))
        self.raises("NoRelay", {}, sure_relayed, more, ALWAYS, alone(full))

    def test_two_thousand_pairings_and_one_more(self):
        hall = many_pairings(2000)
        every = tuple(range(len(hall.boards)))
        found = sure_relayed(hall, ("least", 5, every), alone(hall))
        self.tells(True, is_sure_relayed(hall, ("least", 5, every), alone(hall), found))
        couples, wide, relay = wired_2001()
        self.assertEqual(len(couples), 26)
        self.raises("TooMany", {"most": 2000}, sure_relayed, wide, ALWAYS, relay)
        self.raises("TooMany", {"most": 2000}, delay, wide, ALWAYS, relay)
        self.tells(True, is_sure_relayed(wide, ("some", couples[0]), relay, (couples[0],)))
        # Without one pair there are fewer; it is the pairs that can stand that count, not those of the hall.
        less = {line: ticks for line, ticks in relay[1].items() if line != couples[0]}
        self.assertIsNotNone(sure_relayed(wide, ALWAYS, with_lines(relay, less)))
        self.raises("TooMany", {"most": 2000}, pairings, wide)
        self.raises("TooMany", {"most": 2000}, sure_relayed, fresh_hall(5, 7), ALWAYS, alone(fresh_hall(5, 7)))
        short = ((0,) * 12, {}, ((0, 1),) * 12)
        self.tells((), sure_relayed(fresh_hall(5, 7), ALWAYS, short))

    def test_errors(self):
        self.raises("NotFresh", {}, sure_relayed, BEGUN, None, None)
        self.raises("NotFresh", {}, is_sure_relayed, BEGUN, None, None, None)
        self.refuses_odd("NoAim", lambda thing: sure_relayed(HALL, thing, None), (0, 1, 2))
        self.refuses_odd("NoAim", lambda thing: is_sure_relayed(HALL, thing, None, None), (0, 1, 2))
        self.refuses_odd("NoRelay", lambda thing: sure_relayed(HALL, NEVER, thing))
        self.refuses_odd("NoRelay", lambda thing: is_sure_relayed(HALL, NEVER, thing, ()))
        self.raises("NoAim", {}, sure_relayed, HALL, 4, RELAY)

    def test_by_chance(self):
        told = {True: 0, False: 0}
        for chance, hall, relay, aim in chance_relayed(203, 300):
            couples = right_standing(hall, relay)
            found = sure_relayed(hall, aim, relay)
            right = is_right_by(aim, couples)
            self.assertEqual(found is not None, right)
            told[right] += 1
            if right:
                self.assertIn(found, all_pairings(couples))
                self.assertTrue(is_right(aim, found))
                self.tells(True, is_sure_relayed(hall, aim, relay, found))
            self.tells(found, sure_relayed(hall, aim, copy.deepcopy(relay)))
            for pairing in chance.sample(all_pairings(pairs(hall)), 1):
                wanted = pairing in all_pairings(couples) and is_right(aim, pairing)
                self.tells(wanted, is_sure_relayed(hall, aim, relay, pairing))
        self.assertGreater(min(told.values()), 50)


class LeastLines(Case):
    def test_lines(self):
        aim = ("some", (0, 1))
        self.tells([((0, 1), (1, 0))], least_lines(HALL, aim, RELAY))
        self.tells([()], least_lines(HALL, ALWAYS, RELAY))
        self.tells([], least_lines(HALL, NEVER, RELAY))
        self.tells([], least_lines(HALL, ("some", (2, 3)), RELAY))
        self.tells([()], least_lines(ONE, aim, alone(ONE)))
        self.tells([], least_lines(ONE, aim, ((0, 1), {}, ((9, 0), (9, 0)))))
        self.assertIsNot(least_lines(HALL, aim, RELAY), least_lines(HALL, aim, RELAY))

    def test_several_ways(self):
        lines = {(0, 1): 1, (1, 0): 1, (1, 2): 0, (2, 0): 2, (0, 3): 0, (3, 1): 9}
        # Back by way of 2 takes 2 ticks instead of 1; there by way of 3 takes too many.
        relay = ((0, 1), lines, ((3, 0), (3, 0)))
        self.tells([((0, 1), (1, 0)), ((0, 1), (1, 2), (2, 0))], least_lines(ONE, ("some", (0, 1)), relay))
        self.tells([((0, 1), (1, 0))], least_lines(ONE, ("some", (0, 1)), relay[:2] + (((2, 0), (3, 0)),)))

    def test_ten_lines_and_one_more(self):
        ten = {(0, 1): 0, (1, 0): 0, **{(at, at + 1): 0 for at in range(2, 10)}}
        aim = ("some", (0, 1))
        self.tells([((0, 1), (1, 0))], least_lines(ONE, aim, ((0, 1), ten, ((9, 0), (9, 0)))))
        ring = {(at, (at + 1) % 10): 1 for at in range(10)}
        self.tells([tuple(sorted(ring))], least_lines(ONE, aim, ((0, 5), ring, ((10, 0), (10, 0)))))
        self.tells([], least_lines(ONE, aim, ((0, 5), ring, ((10, 0), (9, 0)))))
        eleven = ((0, 1), {**ten, (10, 11): 0}, ((9, 0), (9, 0)))
        for wanted in (aim, ALWAYS, NEVER):
            self.raises("TooMany", {"most": 10}, least_lines, ONE, wanted, eleven)
        self.raises("NoAim", {}, least_lines, ONE, 2, eleven)
        more = joined(joined(fresh_hall(12, 0), fresh_hall(0, 12)), fresh_hall(1, 0))
        many = ((0,) * 25, eleven[1], ((0, 0),) * 25)
        self.raises("TooMany", {"most": 10}, least_lines, more, ALWAYS, many)
        self.raises("TooMany", {"most": 10}, least_lines, fresh_hall(5, 7), ALWAYS, ((0,) * 12, eleven[1], ((0, 0),) * 12))
        self.raises("TooMany", {"most": 2000}, least_lines, fresh_hall(5, 7), ALWAYS, ((0,) * 12, ten, ((0, 0),) * 12))

    def test_errors(self):
        self.raises("NotFresh", {}, least_lines, BEGUN, None, None)
        self.refuses_odd("NoAim", lambda thing: least_lines(HALL, thing, None), (0, 1, 2))
        self.refuses_odd("NoRelay", lambda thing: least_lines(HALL, NEVER, thing))

    def test_by_chance(self):
        sizes = {}
        for _, hall, relay, aim in chance_relayed(204, 250, 5, 6):
            known = sorted(relay[1])

            def is_one(lot):
                left = {known[at]: relay[1][known[at]] for at in lot}
                return is_right_by(aim, right_standing(hall, with_lines(relay, left)))

            right = [tuple(known[at] for at in lot) for lot in least_lots(len(known), is_one)]
            self.tells(right, least_lines(hall, aim, relay))
            self.tells(right, least_lines(hall, aim, with_lines(relay, dict(sorted(relay[1].items())[::-1]))))
            kind = "()" if right == [()] else len(right)
            sizes[kind] = sizes.get(kind, 0) + 1
        self.assertGreater(min(sizes["()"], sizes[0], sizes[1]), 10)
        self.assertGreater(sum(count for kind, count in sizes.items() if kind not in ("()", 0, 1)), 3)


class Delay(Case):
    def test_ticks(self):
        aim = ("some", (0, 1))
        # There and back are two lines, and 7 ticks of them: 8 are left, or 9.
        self.tells(4, delay(ONE, aim, two((3, 4), ((15, 0), (20, 0)))))
        self.tells(4, delay(ONE, aim, two((3, 4), ((16, 0), (20, 0)))))
        self.tells(5, delay(ONE, aim, two((3, 4), ((17, 0), (20, 0)))))
        self.tells(0, delay(ONE, aim, two((3, 4), ((7, 0), (20, 0)))))
        self.tells(-1, delay(ONE, aim, two((3, 4), ((6, 0), (20, 0)))))
        self.tells(0, delay(ONE, aim, two((3, 4), ((8, 0), (20, 0)))))

    def test_bounds(self):
        aim = ("some", (0, 1))
        self.tells(10 ** 7, delay(ONE, aim, alone(ONE)))
        self.tells(10 ** 7, delay(ONE, ALWAYS, two((0, 0), ((0, 0), (0, 0)))))
        self.tells(-1, delay(ONE, NEVER, alone(ONE)))
        self.tells(-1, delay(ONE, aim, ((0, 1), {}, ((9, 0), (9, 0)))))
        self.tells(5 * 10 ** 6, delay(ONE, aim, two((0, 0), ((10 ** 7, 0), (10 ** 7, 0)))))
        self.tells(5 * 10 ** 6 - 1, delay(ONE, aim, two((0, 1), ((10 ** 7, 0), (10 ** 7, 0)))))

    def test_ways_change_as_lines_are_slower(self):
        # By way of 2 it is faster at first, but with more lines; from 3 ticks on the straight line is no slower.
        lines = {(0, 1): 4, (1, 0): 0, (0, 2): 0, (2, 1): 1}
        relay = ((0, 1), lines, ((11, 0), (11, 0)))
        self.tells(3, delay(ONE, ("some", (0, 1)), relay))
        self.tells(2, delay(ONE, ("some", (0, 1)), relay[:2] + (((8, 0), (8, 0)),)))

    def test_errors(self):
        self.raises("NotFresh", {}, delay, BEGUN, None, None)
        self.refuses_odd("NoAim", lambda thing: delay(HALL, thing, None), (0, 1, 2))
        self.refuses_odd("NoRelay", lambda thing: delay(HALL, NEVER, thing))
        self.raises("TooMany", {"most": 2000}, delay, fresh_hall(5, 7), ALWAYS, alone(fresh_hall(5, 7)))

    def test_by_chance(self):
        told = {}
        for _, hall, relay, aim in chance_relayed(205, 300):
            ticks = delay(hall, aim, relay)
            self.assertIs(type(ticks), int)
            self.assertTrue(-1 <= ticks <= 10 ** 7)
            if ticks >= 0:
                self.assertTrue(is_right_by(aim, right_standing(hall, slower(relay, ticks))))
            if ticks < 10 ** 7:
                self.assertFalse(is_right_by(aim, right_standing(hall, slower(relay, ticks + 1))))
            kind = ticks if ticks in (-1, 0, 10 ** 7) else "some"
            told[kind] = told.get(kind, 0) + 1
        self.assertGreater(min(told.values()), 3)
        self.assertEqual(len(told), 4)


class SlowBoards(Case):
    def test_lots(self):
        self.tells([(0,), (1,)], slow_boards(HALL, ("some", (0, 1)), RELAY))
        self.tells([()], slow_boards(HALL, ("some", (2, 3)), RELAY))
        self.tells([], slow_boards(HALL, ALWAYS, RELAY))
        self.tells([()], slow_boards(HALL, NEVER, RELAY))
        hall = fresh_hall(2, 2)
        every = (0, 1, 2, 3)
        self.tells([(0, 1), (2, 3)], slow_boards(hall, ("some", every), alone(hall)))
        self.tells([(at,) for at in every], slow_boards(hall, ("least", 2, every), alone(hall)))
        # With two guests the pairs are those of each.
        guests = ((0, 1, 0, 1), {}, ((1, 1),) * 4)
        self.tells([(0, 1), (0, 3), (1, 2), (2, 3)], slow_boards(hall, ("some", every), guests))
        self.assertIsNot(slow_boards(hall, NEVER, guests), slow_boards(hall, NEVER, guests))

    def test_twelve_boards_and_one_more(self):
        hall = fresh_hall(6, 6)
        every = tuple(range(12))
        self.tells([(at,) for at in every], slow_boards(hall, ("least", 6, every), alone(hall)))
        self.tells([every[:6], every[6:]], slow_boards(hall, ("some", every), alone(hall)))
        more = joined(hall, Hall((("z", 0, ()),)))
        for aim in (ALWAYS, NEVER):
            self.raises("TooMany", {"most": 12}, slow_boards, more, aim, alone(more))
        self.raises("NoAim", {}, slow_boards, more, 13, alone(more))
        self.raises("NoRelay", {}, slow_boards, more, 12, alone(hall))
        self.raises("TooMany", {"most": 2000}, slow_boards, fresh_hall(5, 7), ALWAYS, alone(fresh_hall(5, 7)))

    def test_errors(self):
        self.raises("NotFresh", {}, slow_boards, BEGUN, None, None)
        self.refuses_odd("NoAim", lambda thing: slow_boards(HALL, thing, None), (0, 1, 2))
        self.refuses_odd("NoRelay", lambda thing: slow_boards(HALL, NEVER, thing))

    def test_by_chance(self):
        sizes = {}
        for _, hall, relay, aim in chance_relayed(206, 300):
            couples = right_standing(hall, relay)

            def is_one(lot):
                return not is_right_by(aim, [pair for pair in couples if not set(pair) & set(lot)])

            right = least_lots(len(hall.boards), is_one)
            self.tells(right, slow_boards(hall, aim, relay))
            kind = "()" if right == [()] else len(right)
            sizes[kind] = sizes.get(kind, 0) + 1
        self.assertGreater(min(sizes["()"], sizes[0], sizes[2]), 5)


class General(Case):
    def test_arguments_stay(self):
        relay, aim = copy.deepcopy(RELAY), ("some", (0, 1))
        for function in (sure_relayed, least_lines, delay, slow_boards):
            function(HALL, aim, relay)
        standing(HALL, relay)
        hand_way(HALL, relay, 0, 2)
        is_sure_relayed(HALL, aim, relay, ((0, 1),))
        self.assertTrue(same(relay, RELAY))

if __name__ == "__main__":
    unittest.main()
