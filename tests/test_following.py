"""13.1 and 13.2: halls for halls."""

import random
import unittest

from tests.helpers import (
    Case, all_pairings, chance_aim, chance_hall, fresh_hall, outcomes, reaches, same)
from untoldgames.aims import dual, moved
from untoldgames.following import alike, chained, following, is_following
from untoldgames.halls import Hall, joined, turned
from untoldgames.pairs import is_pairing, pairs
from untoldgames.verdicts import sure

G = fresh_hall(1, 0)
TWO = fresh_hall(2, 0)
H = Hall((("g", 0, ()), ("g", 0, ()), ("g", 1, ())))
BEGUN = Hall((("g", 0, ()), ("g", 1, ("a",))))
CROWD = joined(fresh_hall(12, 0), fresh_hall(0, 12))
NEVER = ("some", ())
ALWAYS = ("all", ())
ROWS = ((), ("a",), ("b",), ("a", "a"), ("a", "b"))


def between(one, other):
    return joined(turned(one), other)


def follows(one, aim, other, goal, pairing):
    """Whether by each outcome of a pairing the aim is not reached in the one, or the goal is in the other one."""
    many = len(one.boards)
    for outcome in outcomes(pairing):
        # Who sits in the one wins there what the guest does not.
        theirs = [board for board in range(many) if board not in outcome]
        ours = [board - many for board in outcome if board >= many]
        if reaches(aim, theirs) and not reaches(goal, ours):
            return False
    return True


def deep_aim(deep, board):
    """An aim that is so deep."""
    aim = board
    for at in range(deep - 1):
        aim = (("all", (aim,)), ("some", (aim,)), ("least", 1, (aim,)))[at % 3]
    return aim


def wide_aim(numbers):
    """An aim of 200 numbers and tuples: itself, seven parts of 25, and one of 24."""
    row = (numbers * 24)[:24]
    return ("all", (("some", row),) * 7 + (("some", row[1:]),))


class Following(Case):
    def test_pairings(self):
        self.tells(((0, 1),), following(G, 0, G, 0))
        self.assertIsNone(following(G, 0, fresh_hall(0, 1), 0))
        self.assertIsNone(following(G, 0, fresh_hall(1, 0, "h"), 0))
        self.assertIsNone(following(TWO, ("some", (0, 1)), G, 0))
        self.assertIn(following(TWO, ("all", (0, 1)), G, 0), (((0, 2),), ((1, 2),)))
        self.assertIsNone(following(G, 0, TWO, ("all", (0, 1))))
        self.assertIn(following(G, 0, TWO, ("some", (0, 1))), (((0, 1),), ((0, 2),)))
        told = following(TWO, ("all", (0, 1)), TWO, ("all", (0, 1)))
        self.assertIn(told, (((0, 2), (1, 3)), ((0, 3), (1, 2))))

    def test_aims_that_are_never_reached(self):
        self.assertEqual(is_following(G, NEVER, G, NEVER, following(G, NEVER, G, NEVER)), True)
        self.assertIsNone(following(G, ALWAYS, G, NEVER))
        self.assertIsNone(following(G, ALWAYS, G, 0))
        self.assertIsNotNone(following(G, 0, G, ALWAYS))
        # Whoever reaches the aim is not there: it is spoiled within the one hall.
        self.tells(((0, 1),), following(fresh_hall(1, 1), ("all", (0, 1)), fresh_hall(1, 0, "h"), 0))
        self.tells(((1, 2),), following(fresh_hall(1, 0, "h"), 0, fresh_hall(1, 1), ("some", (0, 1))))

    def test_numbers_are_those_of_each_hall(self):
        one = Hall((("h", 0, ()), ("g", 0, ())))
        self.tells(((1, 2),), following(one, 1, G, 0))
        self.assertIsNone(following(one, 0, G, 0))
        other = Hall((("i", 0, ()), ("g", 0, ())))
        self.tells(((1, 3),), following(one, 1, other, 1))
        self.assertIsNone(following(one, 1, other, 0))

    def test_begun_halls(self):
        # In the hall that is turned the master has played what the guest had played ahead.
        self.tells(((0, 1),), following(Hall((("g", 0, ("a",)),)), 0, G, 0))
        self.assertIsNone(following(G, 0, Hall((("g", 0, ("a",)),)), 0))
        self.tells(((0, 1),), following(Hall((("g", 1, ()),)), 0, Hall((("g", 1, ("a",)),)), 0))
        self.tells(((0, 1),), following(Hall((("g", 1, ("a",)),)), 0, Hall((("g", 1, ("a",)),)), 0))
        self.assertIsNone(following(Hall((("g", 1, ("a",)),)), 0, Hall((("g", 1, ()),)), 0))

    def test_deep_and_wide_aims(self):
        # The joined aim is deeper than an aim can be, and has more parts.
        for first in (1, 7, 8):
            for second in (1, 7, 8):
                self.tells(((0, 1),), following(G, deep_aim(first, 0), G, deep_aim(second, 0)))
                self.assertIs(is_following(G, deep_aim(first, 0), G, deep_aim(second, 0), ((0, 1),)), True)
                self.assertIs(is_following(G, deep_aim(first, 0), G, deep_aim(second, 0), ()), False)
        wide = wide_aim((0, 1))
        told = following(TWO, wide, TWO, wide)
        self.assertIs(is_following(TWO, wide, TWO, wide, told), True)
        self.assertEqual(follows(TWO, wide, TWO, wide, told), True)
        self.assertIsNone(following(TWO, wide, G, 0))

    def test_large_halls(self):
        one, other = Hall(tuple((name, 0, ()) for name in "abcdefghijkl")), Hall(
            tuple((name, 0, ()) for name in "abcdefghijkl"))
        aim = ("least", 7, tuple(range(12)))
        self.tells(tuple((board, board + 12) for board in range(12)), following(one, aim, other, aim))
        self.assertIsNone(following(one, aim, other, ("least", 8, tuple(range(12)))))
        self.assertIsNone(alike(one, aim, other, ("least", 8, tuple(range(12)))))

    def test_errors(self):
        for function in (following, alike, lambda *four: is_following(*four, None)):
            self.refuses_odd("NoAim", lambda thing: function(H, thing, H, None), (0, 1, 2))
            self.refuses_odd("NoAim", lambda thing: function(H, 0, H, thing), (0, 1, 2))
            self.raises("NoAim", {}, function, G, 1, H, 0)
            self.raises("NoAim", {}, function, H, 0, G, 1)
            self.raises("NoAim", {}, function, CROWD, 0, G, 1)
            self.raises("NoAim", {}, function, G, 1, CROWD, 0)
            self.raises("TooMany", {"most": 24}, function, CROWD, 0, G, 0)
            self.raises("TooMany", {"most": 24}, function, G, NEVER, CROWD, ALWAYS)
        half = fresh_hall(12, 0)
        self.raises("TooMany", {"most": 2000}, following, half, NEVER, half, ALWAYS)
        self.raises("TooMany", {"most": 2000}, alike, half, NEVER, half, ALWAYS)
        self.assertIs(is_following(half, NEVER, half, ALWAYS, ()), True)

    def test_too_many_pairings_back_alone(self):
        # There the rows part, as nobody can copy what the guest had played ahead; back they do not.
        one, other = fresh_hall(6, 0), Hall((("g", 0, ("a",)),) * 6)
        self.assertEqual(pairs(between(one, other)), [])
        self.assertEqual(len(pairs(between(other, one))), 36)
        self.assertIsNone(following(one, 0, other, 0))
        self.assertIsNotNone(following(other, 0, one, 0))
        self.assertIsNone(alike(one, 0, other, 0))
        more, many = fresh_hall(7, 0), Hall((("g", 0, ("a",)),) * 7)
        self.assertIsNone(following(more, 0, many, 0))
        self.raises("TooMany", {"most": 2000}, following, many, 0, more, 0)
        self.raises("TooMany", {"most": 2000}, alike, more, 0, many, 0)
        self.raises("TooMany", {"most": 2000}, alike, many, 0, more, 0)

    def test_by_chance(self):
        chance = random.Random(131)
        told = {True: 0, False: 0}
        for _ in range(300):
            rows = ROWS[:chance.randint(1, 5)]
            one, other = chance_hall(chance, 4, "gh", rows), chance_hall(chance, 4, "gh", rows)
            aim, goal = chance_aim(chance, len(one.boards)), chance_aim(chance, len(other.boards))
            hall = between(one, other)
            right = [pairing for pairing in all_pairings(pairs(hall)) if follows(one, aim, other, goal, pairing)]
            found = following(one, aim, other, goal)
            told[found is None] += 1
            if found is None:
                self.assertEqual(right, [])
            else:
                self.assertIn(found, right)
                self.assertIs(type(found), tuple)
            for pairing in all_pairings(pairs(hall)):
                self.assertIs(is_following(one, aim, other, goal, pairing), pairing in right)
            self.assertTrue(same(found, following(one, aim, other, goal)))
            # It is the pairing that is sure of the joined aim.
            both = ("some", (dual(one, aim), moved(goal, len(one.boards))))
            self.assertEqual(found is None, sure(hall, both) is None)
        self.assertGreater(min(told.values()), 50)


class IsFollowing(Case):
    def test_spoiled_papers(self):
        for thing in (
                None, (), [(0, 1)], ([0, 1],), ((1, 0),), ((False, 1),), ((0, True),), ((0, 1), (0, 1)), ((0, 2),),
                (0, 1), ((0, 1, 1),), ((0, 1), None), "0-1", {(0, 1): 1}):
            self.assertIs(is_following(G, 0, G, 0, thing), False, thing)
        self.assertIs(is_following(G, 0, G, 0, ((0, 1),)), True)
        # A pairing of the hall that is not turned.
        self.assertIs(is_following(fresh_hall(1, 1), 0, G, 0, ((1, 2),)), False)

    def test_odd(self):
        self.judges_odd(lambda thing: is_following(G, 0, G, 0, thing), [((0, 1),)])
        self.judges_odd(lambda thing: is_following(G, 0, G, ALWAYS, thing), [(), ((0, 1),)])

    def test_large_halls(self):
        half = fresh_hall(12, 0)
        aim = ("least", 6, tuple(range(12)))
        right = tuple((board, board + 12) for board in range(12))
        self.assertIs(is_following(half, aim, half, aim, right), True)
        self.assertIs(is_following(half, aim, half, aim, right[1:]), False)
        self.assertIs(is_following(half, aim, half, ("least", 7, tuple(range(12))), right), False)
        self.raises("TooMany", {"most": 24}, is_following, half, aim, joined(half, G), 0, right)


class Alike(Case):
    def test_pairings(self):
        self.tells((((0, 1),), ((0, 1),)), alike(G, 0, G, 0))
        self.assertIsNone(alike(TWO, ("all", (0, 1)), G, 0))
        self.assertIsNone(alike(G, 0, TWO, ("all", (0, 1))))
        mixed = Hall((("h", 0, ()), ("g", 0, ())))
        self.tells((((1, 2),), ((0, 2),)), alike(mixed, 1, G, 0))
        self.tells((((0, 2),), ((1, 2),)), alike(G, 0, mixed, 1))
        both = alike(H, ("some", (0, 2)), G, ALWAYS)
        self.assertIs(is_following(H, ("some", (0, 2)), G, ALWAYS, both[0]), True)
        self.assertIs(is_following(G, ALWAYS, H, ("some", (0, 2)), both[1]), True)

    def test_by_chance(self):
        chance = random.Random(132)
        told = {True: 0, False: 0}
        for _ in range(200):
            one, other = chance_hall(chance, 4, "g", ROWS[:2]), chance_hall(chance, 4, "g", ROWS[:2])
            aim, goal = chance_aim(chance, len(one.boards), 3), chance_aim(chance, len(other.boards), 3)
            both = alike(one, aim, other, goal)
            there, back = following(one, aim, other, goal), following(other, goal, one, aim)
            told[both is None] += 1
            self.assertEqual(both is None, there is None or back is None)
            if both is not None:
                self.assertIs(type(both), tuple)
                self.assertIs(is_following(one, aim, other, goal, both[0]), True)
                self.assertIs(is_following(other, goal, one, aim, both[1]), True)
        self.assertGreater(min(told.values()), 20)


def linked(one, other, third, first, second):
    """What chained tells, by what hangs together: the boards of the one and of third are only ends."""
    low, high = len(one.boards), len(one.boards) + len(other.boards)
    links = [set(pair) for pair in first] + [{board + low for board in pair} for pair in second]
    while True:
        for at, link in enumerate(links):
            other_links = [more for more in links[at + 1:] if more & link]
            if other_links:
                links.remove(other_links[0])
                link |= other_links[0]
                break
        else:
            break
    found = []
    for link in links:
        ends = sorted(board for board in link if board < low or board >= high)
        if len(ends) == 2:
            found.append(tuple(end if end < low else end - (high - low) for end in ends))
    return tuple(sorted(found))


def chance_pairing(chance, hall):
    """A pairing of a hall by chance, mostly a large one."""
    found = []
    for pair in chance.sample(pairs(hall), len(pairs(hall))):
        if chance.random() < 0.9 and not any(set(pair) & set(more) for more in found):
            found.append(pair)
    return tuple(sorted(found))


class Chained(Case):
    def test_one_board_in_each(self):
        self.tells(((0, 1),), chained(G, G, G, ((0, 1),), ((0, 1),)))
        self.tells((), chained(G, G, G, (), ((0, 1),)))
        self.tells((), chained(G, G, G, ((0, 1),), ()))
        self.tells((), chained(G, G, G, (), ()))

    def test_along_several_boards(self):
        # 0 of the one, 0, 1 and 2 of other, 0 of third.
        other = Hall((("g", 0, ()), ("g", 1, ()), ("g", 0, ())))
        self.tells(((0, 1),), chained(G, other, G, ((0, 1), (2, 3)), ((0, 1), (2, 3))))
        # Without the last pair one comes to a board without a partner.
        self.tells((), chained(G, other, G, ((0, 1), (2, 3)), ((0, 1),)))
        self.tells((), chained(G, other, G, ((0, 1),), ((0, 1), (2, 3))))
        self.tells((), chained(G, other, G, ((2, 3),), ((0, 1), (2, 3))))

    def test_back_to_the_same_hall(self):
        one = fresh_hall(1, 1)
        other = fresh_hall(1, 1)
        # From 0 of the one to 0 of other, by second to 1 of other, and back to 1 of the one.
        self.tells(((0, 1),), chained(one, other, G, ((0, 2), (1, 3)), ((0, 1),)))
        self.tells(((0, 1),), chained(one, other, one, ((0, 1), (2, 3)), ()))
        self.tells(((2, 3),), chained(one, other, one, (), ((0, 1), (2, 3))))
        self.tells(((0, 1), (2, 3)), chained(one, other, one, ((0, 1),), ((2, 3),)))
        self.tells(((1, 2),), chained(G, other, one, ((1, 2),), ((0, 2), (1, 3))))

    def test_what_goes_round_in_the_other_hall(self):
        other = fresh_hall(1, 1)
        self.tells((), chained(G, other, G, ((1, 2),), ((0, 1),)))
        more = fresh_hall(2, 1)
        self.tells(((0, 1),), chained(G, more, G, ((0, 1), (2, 3)), ((0, 2), (1, 3))))

    def test_all_boards_are_crossed(self):
        one = fresh_hall(12, 0)
        first = tuple((board, 12 + (board + 5) % 12) for board in range(12))
        second = tuple((board, 12 + (board + 4) % 12) for board in range(12))
        self.tells(tuple((board, 12 + (board + 9) % 12) for board in range(12)), chained(one, one, one, first, second))
        self.tells(((0, 33),), chained(joined(one, one), one, one, ((0, 24),), ((0, 21),)))

    def test_errors(self):
        late = Hall((("g", 0, ("a",)),))
        for halls in ((late, G, G), (G, late, G), (G, G, late), (BEGUN, BEGUN, BEGUN)):
            self.raises("NotFresh", {}, chained, *halls, None, None)
        self.refuses_odd("NoPairing", lambda thing: chained(G, G, G, thing, ()), [(), ((0, 1),)])
        self.refuses_odd("NoPairing", lambda thing: chained(G, G, G, (), thing), [(), ((0, 1),)])
        for wrong in (((1, 0),), ((0, 2),), [(0, 1)], ((False, 1),), ((0, 1), (0, 1)), ((0, 1), (1, 2)), None):
            self.raises("NoPairing", {}, chained, G, G, G, wrong, None)
            self.raises("NoPairing", {}, chained, G, G, G, ((0, 1),), wrong)
        # Pairings of the halls as they stand, or of the other one of both halls.
        one = fresh_hall(1, 1)
        self.raises("NoPairing", {}, chained, one, G, G, ((1, 2),), ())
        self.raises("NoPairing", {}, chained, G, G, one, (), ((0, 2),))
        self.raises("NoPairing", {}, chained, G, fresh_hall(1, 0, "h"), G, ((0, 1),), ())
        self.raises("NoPairing", {}, chained, G, G, fresh_hall(1, 0, "h"), ((0, 1),), ((0, 1),))
        self.raises("NoPairing", {}, chained, G, TWO, G, ((0, 2),), ((0, 3),))
        self.raises("NoPairing", {}, chained, TWO, G, G, ((0, 2),), ((0, 2),))

    def test_by_chance(self):
        chance = random.Random(133)
        lengths = {}
        for _ in range(500):
            one, other, third = [chance_hall(chance, 6, chance.choice(("g", "gh")), ((),)) for _ in range(3)]
            first = chance_pairing(chance, between(one, other))
            second = chance_pairing(chance, between(other, third))
            told = chained(one, other, third, first, second)
            self.tells(linked(one, other, third, first, second), told)
            self.assertIs(is_pairing(between(one, third), told), True)
            lengths[len(told)] = lengths.get(len(told), 0) + 1
        self.assertGreater(min(lengths[0], lengths[1], lengths[2], lengths[3]), 20)

    def test_sixth_fact(self):
        chance = random.Random(134)
        shown = 0
        for _ in range(700):
            one, other, third = [chance_hall(chance, 4, chance.choice(("g", "g", "gh")), ((),)) for _ in range(3)]
            aim, goal, last = [chance_aim(chance, len(hall.boards), 3) for hall in (one, other, third)]
            first, second = following(one, aim, other, goal), following(other, goal, third, last)
            if first is not None and second is not None:
                shown += 1
                told = chained(one, other, third, first, second)
                self.assertIs(is_following(one, aim, third, last, told), True)
        self.assertGreater(shown, 100)


if __name__ == "__main__":
    unittest.main()
