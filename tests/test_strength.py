"""18.1 and 18.2: the strongest aims, and handicaps."""

import random
import unittest

from tests.helpers import (
    NO_PRICES, Case, all_greatest, all_pairings, chance_aim, chance_hall, fresh_hall, lots, many_pairings, odd_things,
    outcomes, reaches, same)
from untoldgames.halls import Hall, joined
from untoldgames.meeting import met_spoiler
from untoldgames.pairs import pairings, pairs
from untoldgames.strength import cheapest_handicap, gives, handicaps, is_handicap, strongest, strongest_met
from untoldgames.verdicts import is_sure, sure

H = Hall((("g", 0, ()), ("g", 0, ()), ("g", 1, ())))
F = ("some", (("all", (0, 1)), 2))
NEVER = ("some", ())
ALWAYS = ("all", ())
ROWS = ((), ("a",), ("b",), ("a", "a"), ("a", "b"))
ELEVEN = fresh_hall(5, 6)
THIRTEEN = joined(fresh_hall(6, 6), fresh_hall(1, 0))


def is_enough(hall, aim, lot):
    """Whether a lot is a handicap, straight by what the document says."""
    others = [pair for pair in pairs(hall) if not set(pair) & set(lot)]
    return any(all(reaches(aim, set(lot) | set(outcome)) for outcome in outcomes(pairing))
               for pairing in all_pairings(others))


def least_handicaps(hall, aim):
    """The ascending list of the handicaps of which no board can be left out, by going through all lots."""
    found = {lot for lot in lots(len(hall.boards)) if is_enough(hall, aim, lot)}
    return sorted(lot for lot in found if not any(set(less) < set(lot) for less in found))


def chance_halls(seed, many, most):
    """So many halls by chance, each with an aim that is not all too far from being sure."""
    chance = random.Random(seed)
    for _ in range(many):
        hall = chance_hall(chance, most, chance.choice(("g", "gh")), ROWS[:chance.choice((1, 1, 2, 5))])
        boards = tuple(range(len(hall.boards)))
        some = [("some", tuple(chance.choices(boards, k=3))) for _ in range(3)]
        yield chance, hall, chance.choice((
            ("least", chance.randint(1, 3), boards), chance_aim(chance, len(boards)), some[0], ("all", tuple(some)),
            ("some", (("all", boards[:2]), ("all", tuple(some[1:])))), ("all", boards[:3])))


class Strongest(Case):
    def test_aims(self):
        self.tells([("all", (("some", (0, 2)),)), ("all", (("some", (1, 2)),))], strongest(H))
        self.tells([("all", ())], strongest(fresh_hall(2, 0)))
        hall = Hall((("g", 0, ()), ("h", 1, ()), ("g", 1, ("a",)), ("h", 0, ()), ("g", 1, ())))
        self.tells([("all", (("some", (0, 2)), ("some", (1, 3)))), ("all", (("some", (0, 4)), ("some", (1, 3))))],
                   strongest(hall))
        self.assertIsNot(strongest(H), strongest(H))

    def test_order_of_the_greatest_pairings(self):
        chance = random.Random(181)
        for _ in range(60):
            hall = chance_hall(chance, 7, begun=ROWS)
            found = strongest(hall)
            right = [("all", tuple(("some", pair) for pair in pairing)) for pairing in all_greatest(pairs(hall))]
            self.tells(right, found)
            self.assertEqual([tuple(part[1] for part in aim[1]) for aim in found], pairings(hall))
            self.assertTrue(same(found, strongest(hall)))

    def test_bounds(self):
        full = joined(fresh_hall(12, 0), fresh_hall(0, 1))
        self.tells([("all", (("some", (at, 12)),)) for at in range(12)], strongest(full))
        names = joined(Hall(tuple((name, side, ()) for name in "abcdef" for side in (0, 1))),
                       Hall(tuple((name, side, ()) for name in "ghijkl" for side in (0, 1))))
        self.tells([("all", tuple(("some", (at, at + 1)) for at in range(0, 24, 2)))], strongest(names))
        self.assertEqual(len(strongest(many_pairings(2000))), 2000)

    def test_errors(self):
        self.raises("TooMany", {"most": 24}, strongest, joined(joined(fresh_hall(12, 0), fresh_hall(12, 0)),
                                                                fresh_hall(1, 0)))
        self.raises("TooMany", {"most": 2000}, strongest, many_pairings(2001))
        self.raises("TooMany", {"most": 2000}, strongest, fresh_hall(5, 7))

    def test_seventh_fact_by_chance(self):
        told = {True: 0, False: 0}
        for _, hall, aim in chance_halls(182, 150, 7):
            given = [strong for strong in strongest(hall) if gives(hall, strong, aim)]
            self.assertEqual(bool(given), sure(hall, aim) is not None)
            told[bool(given)] += 1
            for strong in given:
                self.assertIs(is_sure(hall, aim, tuple(part[1] for part in strong[1])), True)
        self.assertGreater(min(told.values()), 20)


class Gives(Case):
    def test_aims(self):
        self.tells(True, gives(H, ("all", (0, 1)), F))
        self.tells(False, gives(H, F, ("all", (0, 1))))
        self.tells(True, gives(H, F, ("some", (0, 2))))
        self.tells(True, gives(H, F, F))
        self.tells(False, gives(H, 0, 1))
        self.tells(True, gives(H, NEVER, 0))
        self.tells(False, gives(H, 0, NEVER))
        self.tells(True, gives(H, NEVER, NEVER))
        self.tells(True, gives(H, 0, ALWAYS))
        self.tells(False, gives(H, ALWAYS, 0))
        self.tells(True, gives(H, ("least", 2, (0, 1, 2)), ("some", (0, 1))))
        self.tells(False, gives(H, ("least", 2, (0, 1, 2)), ("all", (0, 1))))

    def test_twelve_boards(self):
        hall = fresh_hall(6, 6)
        every = tuple(range(12))
        self.tells(True, gives(hall, ("least", 7, every), ("least", 6, every)))
        self.tells(False, gives(hall, ("least", 6, every), ("least", 7, every)))
        self.tells(True, gives(hall, ("all", every), 11))
        # Only one lot tells them apart: all but the last two boards, and then all but the first two.
        self.tells(False, gives(hall, ("all", every[:10]), ("some", (10, 11))))
        self.tells(False, gives(hall, ("all", every[2:]), ("some", (0, 1))))
        self.tells(True, gives(hall, ("all", every[1:]), ("some", (0, 1))))

    def test_errors(self):
        self.refuses_odd("NoAim", lambda thing: gives(H, thing, None), (0, 1, 2))
        self.refuses_odd("NoAim", lambda thing: gives(H, F, thing), (0, 1, 2))
        for aims in ((3, 0), (0, 3), (F, ("all", (0, -1))), (("most", ()), F)):
            self.raises("NoAim", {}, gives, H, *aims)
        self.raises("TooMany", {"most": 12}, gives, THIRTEEN, 0, 0)
        self.raises("NoAim", {}, gives, THIRTEEN, 0, 13)
        self.raises("NoAim", {}, gives, THIRTEEN, 13, 0)

    def test_by_chance(self):
        chance = random.Random(183)
        told = {True: 0, False: 0}
        for _ in range(300):
            hall = chance_hall(chance, 5)
            many = len(hall.boards)
            aim, other = chance_aim(chance, many), chance_aim(chance, many)
            right = all(reaches(other, lot) for lot in lots(many) if reaches(aim, lot))
            self.tells(right, gives(hall, aim, other))
            told[right] += 1
        self.assertGreater(min(told.values()), 30)


class StrongestMet(Case):
    def test_aims(self):
        self.tells(("all", (("some", (("all", (0, 1)), ("all", (2,)))),)), strongest_met(H))
        self.tells(("all", ()), strongest_met(fresh_hall(3, 0)))
        hall = Hall((("h", 1, ()), ("x", 0, ()), ("g", 1, ()), ("h", 0, ()), ("g", 1, ()), ("y", 1, ()), ("g", 0, ())))
        self.tells(("all", (("some", (("all", (6,)), ("all", (2, 4)))), ("some", (("all", (3,)), ("all", (0,)))))),
                   strongest_met(hall))

    def test_names_that_are_not_two_sided_do_not_stand_in_it(self):
        hall = Hall((("g", 0, ()), ("h", 0, ()), ("i", 1, ()), ("g", 1, ()), ("h", 0, ())))
        self.tells(("all", (("some", (("all", (0,)), ("all", (3,)))),)), strongest_met(hall))

    def test_large_halls(self):
        hall = joined(fresh_hall(12, 0), fresh_hall(0, 12))
        self.tells(("all", (("some", (("all", tuple(range(12))), ("all", tuple(range(12, 24))))),)), strongest_met(hall))
        self.tells(("all", (("some", (("all", tuple(range(12))), ("all", tuple(range(12, 25))))),)),
                   strongest_met(joined(hall, fresh_hall(0, 1))))

    def test_errors(self):
        self.raises("NotFresh", {}, strongest_met, Hall((("g", 0, ()), ("g", 1, ("a",)))))

    def test_it_gives_just_what_is_sure_by_chance(self):
        told = {True: 0, False: 0}
        for _, hall, aim in chance_halls(184, 200, 7):
            if any(board[2] for board in hall.boards):
                self.raises("NotFresh", {}, strongest_met, hall)
                continue
            right = met_spoiler(hall, aim) is None
            self.tells(right, gives(hall, strongest_met(hall), aim))
            told[right] += 1
        self.assertGreater(min(told.values()), 20)


class Handicaps(Case):
    def test_example(self):
        self.tells([(0,), (1,), (2,)], handicaps(H, F))

    def test_lots(self):
        self.tells([()], handicaps(H, ("some", (0, 2))))
        self.tells([()], handicaps(H, ALWAYS))
        self.tells([], handicaps(H, NEVER))
        self.tells([], handicaps(H, ("least", 4, (0, 1, 2))))
        self.tells([()], handicaps(H, ("least", 0, ())))
        self.tells([(0,)], handicaps(H, 0))
        self.tells([(0, 1, 2)], handicaps(H, ("all", (0, 1, 2))))
        self.tells([(0,), (1,)], handicaps(H, ("least", 2, (0, 1, 2))))
        self.assertIsNot(handicaps(H, F), handicaps(H, F))

    def test_boards_that_are_won_anyway_do_not_win_others(self):
        # One board of the pair is won; who has it anyway has not the other one by it.
        self.tells([(0, 1)], handicaps(fresh_hall(1, 1), ("all", (0, 1))))
        self.tells([()], handicaps(fresh_hall(1, 1), ("some", (0, 1))))
        # Who has both boards of one side has no pair left.
        self.tells([(0, 2), (0, 3), (1, 2), (1, 3)], handicaps(fresh_hall(2, 2), ("least", 3, (0, 1, 2, 3))))
        self.assertIs(is_handicap(fresh_hall(1, 1), ("all", (0, 1)), (0,)), False)
        self.assertIs(is_handicap(fresh_hall(1, 1), ("all", (0, 1)), (1,)), False)

    def test_begun_boards(self):
        chain = Hall((("g", 0, ()), ("g", 1, ("a",)), ("g", 0, ("a", "b")), ("g", 1, ("a", "b", "c"))))
        self.tells([()], handicaps(chain, ("least", 2, (0, 1, 2, 3))))
        self.tells([(0,), (3,)], [lot for lot in handicaps(chain, ("all", (("some", (1, 2)), ("some", (0, 3)))))
                                  if len(lot) == 1])

    def test_ten_boards_and_one_more(self):
        hall = fresh_hall(5, 5)
        every = tuple(range(10))
        self.tells([()], handicaps(hall, ("least", 5, every)))
        # With i boards of the one side and j of the other one won anyway 5 - max(i, j) pairs are left.
        right = [lot for lot in lots(10) if len(lot) == 4 and len([board for board in lot if board < 5]) == 2]
        self.tells(sorted(right), handicaps(hall, ("least", 7, every)))
        self.tells([every], handicaps(hall, ("all", every)))
        for function in (handicaps, lambda hall, aim: is_handicap(hall, aim, ())):
            self.raises("TooMany", {"most": 10}, function, ELEVEN, ALWAYS)
            self.raises("TooMany", {"most": 10}, function, joined(ELEVEN, ELEVEN), NEVER)
            self.raises("NoAim", {}, function, ELEVEN, 11)

    def test_errors(self):
        self.refuses_odd("NoAim", lambda thing: handicaps(H, thing), (0, 1, 2))
        self.refuses_odd("NoAim", lambda thing: is_handicap(H, thing, None), (0, 1, 2))

    def test_by_chance(self):
        sizes = {}
        for _, hall, aim in chance_halls(185, 250, 6):
            right = least_handicaps(hall, aim)
            self.tells(right, handicaps(hall, aim))
            self.assertTrue(same(handicaps(hall, aim), handicaps(hall, aim)))
            self.assertEqual(right == [()], sure(hall, aim) is not None)
            sizes[len(right)] = sizes.get(len(right), 0) + 1
        self.assertGreater(min(sizes[0], sizes[1], sizes[2], sizes[3]), 5)


class IsHandicap(Case):
    def test_lots(self):
        self.tells(True, is_handicap(H, F, (0,)))
        self.tells(True, is_handicap(H, F, (0, 1, 2)))
        self.tells(True, is_handicap(H, F, (0, 2)))
        self.tells(False, is_handicap(H, F, ()))
        self.tells(True, is_handicap(H, ("some", (0, 2)), ()))
        self.tells(False, is_handicap(H, 0, (1, 2)))
        self.tells(False, is_handicap(H, NEVER, (0, 1, 2)))

    def test_no_lots(self):
        for thing in ((3,), (-1,), (1, 0), (0, 0), [0], (True,), (False,), (0, True), (0, None), "0", {0: 0}, 0):
            self.tells(False, is_handicap(H, ALWAYS, thing))
        right = [(), (0,), (1,), (0, 1)]
        self.judges_odd(lambda thing: is_handicap(H, ALWAYS, thing), right)
        self.judges_odd(lambda thing: is_handicap(H, NEVER, thing))
        for thing in odd_things():
            self.raises("TooMany", {"most": 10}, is_handicap, ELEVEN, ALWAYS, thing)

    def test_by_chance(self):
        told = {True: 0, False: 0}
        for chance, hall, aim in chance_halls(186, 150, 6):
            for lot in chance.sample(lots(len(hall.boards)), 2):
                right = is_enough(hall, aim, lot)
                self.tells(right, is_handicap(hall, aim, lot))
                told[right] += 1
        self.assertGreater(min(told.values()), 50)


class CheapestHandicap(Case):
    def test_prices(self):
        self.tells((2, (2,)), cheapest_handicap(H, F, (3, 4, 2)))
        self.tells((3, (1,)), cheapest_handicap(H, F, (4, 3, 5)))
        self.tells((0, ()), cheapest_handicap(H, ("some", (0, 2)), (1, 1, 1)))
        self.tells((3 * 10 ** 6, (0, 1, 2)), cheapest_handicap(H, ("all", (0, 1, 2)), (10 ** 6,) * 3))
        self.assertIsNone(cheapest_handicap(H, NEVER, (0, 0, 0)))

    def test_prices_that_are_all_nothing(self):
        self.tells((0, (0,)), cheapest_handicap(H, F, (0, 0, 0)))
        # () is no handicap, and (0, 2), which is lesser than (2,), one of which a board can be left out.
        self.tells((0, (2,)), cheapest_handicap(H, 2, (0, 0, 0)))

    def test_several_lots_of_the_same_price(self):
        self.tells((4, (1,)), cheapest_handicap(H, F, (5, 4, 4)))
        hall = fresh_hall(4, 0)
        aim = ("some", (("all", (0, 3)), ("all", (0, 1, 2)), 2))
        self.tells((4, (0, 3)), cheapest_handicap(hall, aim, (2, 1, 4, 2)))
        self.tells((3, (2,)), cheapest_handicap(hall, aim, (2, 1, 3, 2)))

    def test_errors(self):
        self.refuses_odd("NoAim", lambda thing: cheapest_handicap(H, thing, None), (0, 1, 2))
        self.refuses_odd("NoPrices", lambda thing: cheapest_handicap(H, F, thing))
        for prices in ((), (1,), (1, 1), (1, 1, 1, 1), [1, 1, 1], {0: 1, 1: 1, 2: 1}, "111", None):
            self.raises("NoPrices", {}, cheapest_handicap, H, F, prices)
        for wrong in NO_PRICES:
            for at in range(3):
                prices = [1, 1, 1]
                prices[at] = wrong
                self.raises("NoPrices", {}, cheapest_handicap, H, F, tuple(prices))
        self.raises("NoAim", {}, cheapest_handicap, ELEVEN, 11, None)
        self.raises("NoPrices", {}, cheapest_handicap, ELEVEN, ALWAYS, (1,) * 10)
        self.raises("TooMany", {"most": 10}, cheapest_handicap, ELEVEN, ALWAYS, (1,) * 11)

    def test_by_chance(self):
        for chance, hall, aim in chance_halls(187, 200, 6):
            prices = tuple(chance.choice((0, 0, 1, 2, 3, 10 ** 6)) for _ in hall.boards)
            right = least_handicaps(hall, aim)
            told = cheapest_handicap(hall, aim, prices)
            if not right:
                self.assertIsNone(told)
                continue
            every = [lot for lot in lots(len(hall.boards)) if is_enough(hall, aim, lot)]
            least = min(sum(prices[board] for board in lot) for lot in every)
            self.tells((least, min(lot for lot in right if sum(prices[board] for board in lot) == least)), told)


if __name__ == "__main__":
    unittest.main()
