"""5.2 and 5.3: sure and spoilers, and what judges them."""

import random
import unittest

from tests.helpers import (
    Case, all_greatest, all_pairings, chance_aim, chance_hall, fresh_hall, many_pairings, odd_things, outcomes, reaches,
    same)
from untoldgames.halls import Hall, joined, only
from untoldgames.pairs import is_pairing, pairings, pairs
from untoldgames.verdicts import are_spoilers, is_sure, spoilers, sure

H = Hall((("g", 0, ()), ("g", 0, ()), ("g", 1, ())))
F = ("some", (("all", (0, 1)), 2))
LONE = fresh_hall(2, 0)
BEGUN = ((), ("a",), ("b",), ("a", "a"), ("a", "b"))
# Twelve names of a pair each: one pairing, of 4096 outcomes.
TWELVE_PAIRS = joined(*[Hall(tuple((name, side, ()) for name in names for side in (0, 1)))
                        for names in ("abcdef", "ghijkl")])
TWENTY_FIVE = joined(TWELVE_PAIRS, fresh_hall(1, 0))
CROWD = joined(fresh_hall(12, 0), fresh_hall(0, 12))


def holds(aim, pairing):
    """Whether an aim is reached by each outcome of a pairing, straight by what the document says."""
    return all(reaches(aim, outcome) for outcome in outcomes(pairing))


class Sure(Case):
    def test_examples(self):
        self.tells(((0, 2),), sure(H, ("some", (0, 2))))
        self.assertIsNone(sure(H, F))

    def test_without_pairs(self):
        self.tells((), sure(LONE, ("all", ())))
        self.tells((), sure(LONE, ("least", 0, (0,))))
        self.assertIsNone(sure(LONE, ("some", ())))
        self.assertIsNone(sure(LONE, 0))
        self.assertIsNone(sure(LONE, ("some", (0, 1))))
        self.assertTrue(is_pairing(H, sure(H, ("all", ()))))
        self.assertIsNone(sure(H, ("some", ())))

    def test_boards_in_no_pair_are_lost(self):
        self.assertIsNone(sure(H, ("some", (0, 1))))
        self.assertIsNone(sure(H, ("all", (("some", (0, 2)), ("some", (1, 2))))))
        self.assertTrue(is_sure(H, ("some", (1, 2)), sure(H, ("some", (1, 2)))))

    def test_one_pairing_of_several(self):
        hall = fresh_hall(2, 2)
        self.tells(((0, 3), (1, 2)), sure(hall, ("all", (("some", (0, 3)), ("some", (1, 2))))))
        self.tells(((0, 2), (1, 3)), sure(hall, ("all", (("some", (0, 2)), ("some", (1, 3))))))
        self.assertIsNone(sure(hall, ("all", (("some", (0, 3)), ("some", (0, 2))))))
        self.assertIsNotNone(sure(hall, ("least", 2, (0, 1, 2, 3))))
        self.assertIsNone(sure(hall, ("least", 3, (0, 1, 2, 3))))

    def test_begun_boards(self):
        copies = Hall((("g", 0, ()), ("g", 1, ("a",))))
        self.tells(((0, 1),), sure(copies, ("some", (0, 1))))
        self.assertIsNone(sure(Hall((("g", 1, ()), ("g", 0, ("a",)))), ("some", (0, 1))))

    def test_many_outcomes(self):
        pairing = tuple((2 * name, 2 * name + 1) for name in range(12))
        some = tuple(("some", pair) for pair in pairing)
        self.tells(pairing, sure(TWELVE_PAIRS, ("all", some)))
        # Each of these is missed by a single outcome.
        for choice in (0, 1, 0b111111111111, 0b101010101010, 1 << 10, 1 << 11, 1 << 9):
            won = tuple(2 * name + (choice >> name & 1) for name in range(12))
            lost = tuple(2 * name + (1 - (choice >> name & 1)) for name in range(12))
            self.assertIsNone(sure(TWELVE_PAIRS, ("some", lost)))
            self.tells({pairing: won}, spoilers(TWELVE_PAIRS, ("some", lost)))
            self.tells(pairing, sure(TWELVE_PAIRS, ("some", lost + (won[0],))))
            self.assertIsNone(spoilers(TWELVE_PAIRS, ("some", lost + (won[11],))))
        self.tells(pairing, sure(TWELVE_PAIRS, ("least", 12, tuple(range(24)))))
        self.assertIsNone(sure(TWELVE_PAIRS, ("least", 13, tuple(range(24)))))

    def test_many_pairings(self):
        hall = many_pairings(2000)
        self.assertIsNotNone(sure(hall, ("least", 5, tuple(range(20)))))
        self.assertIsNone(sure(hall, ("least", 6, tuple(range(20)))))
        self.assertEqual(list(spoilers(hall, ("some", ()))), pairings(hall))

    def test_errors(self):
        for function in (sure, spoilers):
            self.refuses_odd("NoAim", lambda thing: function(H, thing), (0, 1, 2))
            self.raises("NoAim", {}, function, H, 3)
            self.raises("NoAim", {}, function, TWENTY_FIVE, 25)
            self.raises("NoAim", {}, function, CROWD, ("least", 26, ()))
            self.raises("TooMany", {"most": 24}, function, TWENTY_FIVE, ("all", ()))
            self.raises("TooMany", {"most": 24}, function, joined(CROWD, LONE), ("all", ()))
            self.raises("TooMany", {"most": 2000}, function, CROWD, ("all", ()))
            self.raises("TooMany", {"most": 2000}, function, CROWD, ("some", ()))
            self.raises("TooMany", {"most": 2000}, function, many_pairings(2001), 0)


class Facts(Case):
    def test_just_one_of_both_by_chance(self):
        chance = random.Random(31)
        told = {True: 0, False: 0}
        for _ in range(400):
            hall = chance_hall(chance, 8, chance.choice(("g", "gh")), BEGUN[:chance.randint(1, 5)])
            aim = chance_aim(chance, len(hall.boards))
            pairing, spoiled = sure(hall, aim), spoilers(hall, aim)
            self.assertNotEqual(pairing is None, spoiled is None)
            told[pairing is None] += 1
            right = any(holds(aim, one) for one in all_pairings(pairs(hall)))
            self.assertEqual(pairing is not None, right)
            if right:
                self.assertIs(type(pairing), tuple)
                self.assertTrue(is_pairing(hall, pairing) and holds(aim, pairing))
                self.assertIs(is_sure(hall, aim, pairing), True)
                self.assertTrue(same(pairing, sure(hall, aim)))
            else:
                self.assertIs(are_spoilers(hall, aim, spoiled), True)
                self.assertEqual(sorted(spoiled), all_greatest(pairs(hall)))
                for one, outcome in spoiled.items():
                    self.assertIn(outcome, outcomes(one))
                    self.assertFalse(reaches(aim, outcome))
                self.assertTrue(same(spoiled, spoilers(hall, aim)))
                self.assertIsNot(spoiled, spoilers(hall, aim))
        self.assertGreater(min(told.values()), 50)


class IsSure(Case):
    def test_judged(self):
        aim = ("some", (0, 2))
        self.assertIs(is_sure(H, aim, ((0, 2),)), True)
        self.assertIs(is_sure(H, aim, ((1, 2),)), False)
        self.assertIs(is_sure(H, aim, ()), False)
        self.assertIs(is_sure(H, ("all", ()), ()), True)
        self.assertIs(is_sure(H, ("all", ()), ((1, 2),)), True)
        self.assertIs(is_sure(H, ("some", ()), ()), False)
        self.assertIs(is_sure(H, F, ((0, 2),)), False)
        self.assertIs(is_sure(LONE, ("all", ()), ()), True)

    def test_no_greatest_pairing_is_needed(self):
        hall = fresh_hall(2, 2)
        self.assertIs(is_sure(hall, ("some", (0, 3)), ((0, 3),)), True)
        self.assertIs(is_sure(hall, ("some", (0, 3)), ((0, 3), (1, 2))), True)

    def test_spoiled_papers(self):
        aim = ("some", (0, 2))
        for thing in (
                [(0, 2)], ([0, 2],), ((2, 0),), ((False, 2),), ((0, 2), (0, 2)), ((0, 2), (1, 2)), ((0, 1),), (0, 2),
                ((0, 2, 2),), ((0, 3),), None, {(0, 2): 1}, "0-2", ((0, 2), None), ((0, 2), ())):
            self.assertIs(is_sure(H, aim, thing), False, thing)
            self.assertIs(is_sure(H, ("all", ()), thing), False, thing)

    def test_odd(self):
        self.judges_odd(lambda thing: is_sure(H, ("all", ()), thing), [()])
        self.judges_odd(lambda thing: is_sure(fresh_hall(1, 1), ("some", (0, 1)), thing), [((0, 1),)])

    def test_large_halls(self):
        pairing = tuple((board, board + 12) for board in range(12))
        self.assertIs(is_sure(CROWD, ("least", 12, tuple(range(24))), pairing), True)
        self.assertIs(is_sure(CROWD, ("least", 12, tuple(range(24))), pairing[1:]), False)
        self.assertIs(is_sure(CROWD, ("some", tuple(range(12))), pairing), False)
        self.assertIs(is_sure(many_pairings(2001), ("all", ()), ()), True)

    def test_by_chance(self):
        chance = random.Random(32)
        for _ in range(150):
            hall = chance_hall(chance, 7, "g", BEGUN[:3])
            aim = chance_aim(chance, len(hall.boards))
            for pairing in all_pairings(pairs(hall)):
                self.assertIs(is_sure(hall, aim, pairing), holds(aim, pairing))

    def test_errors(self):
        self.refuses_odd("NoAim", lambda thing: is_sure(H, thing, None), (0, 1, 2))
        self.raises("TooMany", {"most": 24}, is_sure, TWENTY_FIVE, 0, ())
        self.raises("TooMany", {"most": 24}, is_sure, TWENTY_FIVE, 0, None)
        self.raises("NoAim", {}, is_sure, TWENTY_FIVE, 25, None)


class AreSpoilers(Case):
    RIGHT = {((0, 2),): (0,), ((1, 2),): (1,)}

    def test_judged(self):
        self.assertIs(are_spoilers(H, F, self.RIGHT), True)
        self.assertIs(are_spoilers(LONE, ("some", ()), {(): ()}), True)
        self.assertIs(are_spoilers(LONE, ("all", ()), {(): ()}), False)
        self.assertIs(are_spoilers(H, ("some", (0, 2)), {((0, 2),): (0,), ((1, 2),): (1,)}), False)
        self.assertIs(are_spoilers(H, ("some", ()), {((0, 2),): (2,), ((1, 2),): (1,)}), True)

    def test_spoiled_papers(self):
        for thing in (
                None, {}, [((0, 2),), ((1, 2),)], {((0, 2),): (0,)}, {((1, 2),): (1,)}, {**self.RIGHT, (): ()},
                {((0, 2),): (2,), ((1, 2),): (1,)}, {((0, 2),): (0,), ((1, 2),): (2,)},
                {((0, 2),): (1,), ((1, 2),): (1,)}, {((0, 2),): (), ((1, 2),): (1,)},
                {((0, 2),): (0, 2), ((1, 2),): (1,)}, {((0, 2),): (0, 1), ((1, 2),): (1,)},
                {((0, 2),): [0], ((1, 2),): (1,)}, {((0, 2),): (False,), ((1, 2),): (1,)},
                {((0, 2),): (0,), ((1, 2),): (True,)}, {((False, 2),): (0,), ((1, 2),): (1,)},
                {((0, 2),): (0,), ((True, 2),): (1,)}, {(0, 2): (0,), (1, 2): (1,)},
                {((0, 2),): (0,), (): ()}, {((0, 2),): (0,), None: (1,)}, {((0, 2),): None, ((1, 2),): None},
                {((0, 2),): 0, ((1, 2),): 1}, {((0, 2),): (0,), ((1, 2),): ((1,),)}, {0: (0,), 1: (1,)},
                {((0, 2),): (3,), ((1, 2),): (1,)}, {((0, 2),): (0,), ((1, 2),): {1: 1}},
                {((0, 2),): (0,), ((2, 1),): (1,)}):
            self.assertIs(are_spoilers(H, F, thing), False, thing)

    def test_outcomes_have_just_one_board_of_each_pair(self):
        never = ("some", ())
        self.assertIs(are_spoilers(H, never, {((0, 2),): (0,), ((1, 2),): (2,)}), True)
        for outcome in ((), (0, 1), (0, 2), (1,), (1, 2), (0, 1, 2), [0], (2, 0), (0, 0), (0, 3)):
            self.assertIs(are_spoilers(H, never, {((0, 2),): outcome, ((1, 2),): (2,)}), False, outcome)
        self.assertIs(are_spoilers(LONE, never, {(): (0,)}), False)

    def test_pairings_that_are_not_greatest_are_no_keys(self):
        hall = fresh_hall(2, 2)
        aim = ("least", 3, (0, 1, 2, 3))
        right = {((0, 2), (1, 3)): (0, 1), ((0, 3), (1, 2)): (2, 3)}
        self.assertIs(are_spoilers(hall, aim, right), True)
        self.assertIs(are_spoilers(hall, aim, {((0, 2), (1, 3)): (0, 1), ((0, 3),): (3,)}), False)
        self.assertIs(are_spoilers(hall, aim, {((0, 2), (1, 3)): (0, 1), ((1, 2), (0, 3)): (2, 3)}), False)
        self.assertIs(are_spoilers(hall, aim, {((0, 2), (1, 3)): (0, 2), ((0, 3), (1, 2)): (2, 3)}), False)
        self.assertIs(are_spoilers(hall, aim, {((0, 2), (1, 3)): (1, 0), ((0, 3), (1, 2)): (2, 3)}), False)

    def test_odd(self):
        self.judges_odd(lambda thing: are_spoilers(H, F, thing))
        for thing in odd_things():
            expected = same(thing, (0,))
            self.assertIs(are_spoilers(H, F, {((0, 2),): thing, ((1, 2),): (1,)}), expected)
        right = [{((0, 1),): (0,)}]
        self.judges_odd(lambda thing: are_spoilers(fresh_hall(1, 1), 1, thing), right)

    def test_many_pairings(self):
        hall = many_pairings(2000)
        told = spoilers(hall, ("least", 6, tuple(range(20))))
        self.assertIs(are_spoilers(hall, ("least", 6, tuple(range(20))), told), True)
        less = {pairing: told[pairing] for pairing in list(told)[1:]}
        self.assertIs(are_spoilers(hall, ("least", 6, tuple(range(20))), less), False)

    def test_arguments_stay(self):
        thing = {((0, 2),): (0,), ((1, 2),): (1,)}
        are_spoilers(H, F, thing)
        self.assertEqual(thing, self.RIGHT)

    def test_errors(self):
        self.refuses_odd("NoAim", lambda thing: are_spoilers(H, thing, None), (0, 1, 2))
        self.raises("TooMany", {"most": 24}, are_spoilers, TWENTY_FIVE, 0, None)
        self.raises("TooMany", {"most": 2000}, are_spoilers, CROWD, 0, None)
        self.raises("NoAim", {}, are_spoilers, TWENTY_FIVE, 25, None)
        self.raises("TooMany", {"most": 2000}, are_spoilers, many_pairings(2001), ("all", ()), {})
        self.assertIs(are_spoilers(only(CROWD, (0, 12)), 0, {((0, 1),): (1,)}), True)


if __name__ == "__main__":
    unittest.main()
