"""14.1 and 14.2: boards that are enough, pairs that are barred, seats that are exchanged."""

import random
import unittest

from tests.helpers import (
    NO_PRICES, Case, all_pairings, chance_aim, chance_hall, fresh_hall, least_lots, lots, outcomes, reaches, same)
from untoldgames.halls import Hall, joined
from untoldgames.house import bars, cheapest, enough, turns
from untoldgames.pairs import pairs
from untoldgames.verdicts import sure

H = Hall((("g", 0, ()), ("g", 0, ()), ("g", 1, ())))
F = ("some", (("all", (0, 1)), 2))
NEVER = ("some", ())
ALWAYS = ("all", ())
ROWS = ((), ("a",), ("b",), ("a", "a"), ("a", "b"))
THIRTEEN = joined(fresh_hall(6, 6), fresh_hall(1, 0))


def sure_pairings(hall, aim):
    """All pairings that are sure of an aim, straight by what the document says."""
    return [pairing for pairing in all_pairings(pairs(hall))
            if all(reaches(aim, outcome) for outcome in outcomes(pairing))]


def boards_of(pairing):
    return {board for pair in pairing for board in pair}


def exchanged(hall, lot):
    """The hall with the guest at the other side of the boards of a lot."""
    boards = tuple((name, 1 - side if at in lot else side, begun)
                   for at, (name, side, begun) in enumerate(hall.boards))
    return Hall(boards)


def chance_halls(seed, many, most):
    """So many halls by chance, each with an aim that is not all too far from being sure."""
    chance = random.Random(seed)
    for _ in range(many):
        hall = chance_hall(chance, most, chance.choice(("g", "gh")), ROWS[:chance.choice((1, 1, 2, 5))])
        boards = tuple(range(len(hall.boards)))
        some = [("some", tuple(chance.choices(boards, k=3))) for _ in range(3)]
        yield chance, hall, chance.choice((
            ("least", chance.randint(1, 3), boards), chance_aim(chance, len(boards)), some[0], ("all", tuple(some[:2])),
            ("some", (some[0], ("all", tuple(some[1:]))))))


class Enough(Case):
    def test_lots(self):
        self.tells([(0, 2)], enough(H, ("some", (0, 2))))
        self.tells([(0, 2), (1, 2)], enough(H, ("some", (0, 1, 2))))
        self.tells([], enough(H, F))
        self.tells([()], enough(H, ALWAYS))
        self.tells([], enough(H, NEVER))
        self.tells([()], enough(fresh_hall(2, 0), ("least", 0, (0,))))
        self.tells([], enough(fresh_hall(2, 0), 0))
        hall = fresh_hall(2, 2)
        self.tells([(0, 1, 2, 3)], enough(hall, ("least", 2, (0, 1, 2, 3))))
        self.tells([(0, 2), (0, 3), (1, 2), (1, 3)], enough(hall, ("some", (0, 1, 2, 3))))
        self.tells([(0, 1, 2, 3)], enough(hall, ("all", (("some", (0, 2)), ("some", (1, 3))))))
        self.assertIsNot(enough(H, F), enough(H, F))

    def test_lots_of_unlike_size(self):
        hall = Hall((("g", 0, ()), ("g", 1, ()), ("h", 0, ()), ("h", 1, ()), ("i", 0, ()), ("i", 1, ())))
        aim = ("some", (("some", (0, 1)), ("all", (("some", (2, 3)), ("some", (4, 5))))))
        self.tells([(0, 1), (2, 3, 4, 5)], enough(hall, aim))

    def test_begun_boards(self):
        chain = Hall((("g", 0, ()), ("g", 1, ("a",)), ("g", 0, ("a", "b")), ("g", 1, ("a", "b", "c"))))
        self.tells([(0, 1), (1, 2), (2, 3)], enough(chain, ("some", (0, 1, 2, 3))))
        self.tells([(0, 1, 2, 3)], enough(chain, ("least", 2, (0, 1, 2, 3))))

    def test_twelve_boards(self):
        hall = fresh_hall(6, 6)
        every = tuple(range(12))
        self.tells([every], enough(hall, ("least", 6, every)))
        self.tells([], enough(hall, ("least", 7, every)))
        self.assertEqual(len(enough(hall, ("least", 3, every))), 400)
        self.tells([(0, 11), (5, 11)], enough(hall, ("some", (0, 5, 11))))
        self.tells([(0, 11)], enough(hall, ("some", (0, 11))))
        self.tells([(5, 6)], enough(hall, ("some", (5, 6))))

    def test_errors(self):
        self.refuses_odd("NoAim", lambda thing: enough(H, thing), (0, 1, 2))
        self.raises("NoAim", {}, enough, THIRTEEN, 13)
        self.raises("TooMany", {"most": 12}, enough, THIRTEEN, ALWAYS)
        self.raises("TooMany", {"most": 12}, enough, joined(fresh_hall(12, 0), fresh_hall(0, 12)), NEVER)

    def test_by_chance(self):
        sizes = {}
        for _, hall, aim in chance_halls(141, 250, 8):
            sets = [boards_of(pairing) for pairing in sure_pairings(hall, aim)]
            right = least_lots(len(hall.boards), lambda lot: any(boards <= set(lot) for boards in sets))
            self.tells(right, enough(hall, aim))
            sizes[len(right)] = sizes.get(len(right), 0) + 1
        self.assertGreater(min(sizes[0], sizes[1], sizes[2]), 10)


class Cheapest(Case):
    def test_prices(self):
        some = ("some", (0, 1, 2))
        self.tells((3, (0, 2)), cheapest(H, some, (1, 5, 2)))
        self.tells((7, (1, 2)), cheapest(H, some, (6, 5, 2)))
        self.tells((6, (0, 2)), cheapest(H, some, (4, 4, 2)))
        self.assertIsNone(cheapest(H, F, (0, 0, 0)))
        self.tells((0, ()), cheapest(H, ALWAYS, (1, 1, 1)))
        self.tells((2 * 10 ** 6, (0, 2)), cheapest(H, some, (10 ** 6,) * 3))

    def test_prices_that_are_all_nothing(self):
        self.tells((0, (0, 2)), cheapest(H, ("some", (0, 1, 2)), (0, 0, 0)))
        self.tells((0, ()), cheapest(H, ALWAYS, (0, 0, 0)))
        self.tells((0, (0, 1, 2, 3)), cheapest(fresh_hall(2, 2), ("least", 2, (0, 1, 2, 3)), (0,) * 4))

    def test_several_lots_of_the_same_price(self):
        hall = Hall((("g", 0, ()), ("g", 1, ()), ("h", 0, ()), ("h", 1, ()), ("i", 0, ()), ("i", 1, ())))
        aim = ("some", (("some", (0, 1)), ("all", (("some", (2, 3)), ("some", (4, 5))))))
        self.tells((4, (0, 1)), cheapest(hall, aim, (2, 2, 1, 1, 1, 1)))
        self.tells((4, (2, 3, 4, 5)), cheapest(hall, aim, (2, 3, 1, 1, 1, 1)))
        other = ("some", (("some", (4, 5)), ("all", (("some", (0, 1)), ("some", (2, 3))))))
        self.tells((4, (0, 1, 2, 3)), cheapest(hall, other, (1, 1, 1, 1, 2, 2)))
        # A lot of which a board could be left out is never told, though it would be as cheap and lesser.
        self.tells((0, (2, 3)), cheapest(hall, ("some", (2, 3)), (0,) * 6))

    def test_errors(self):
        self.refuses_odd("NoAim", lambda thing: cheapest(H, thing, None), (0, 1, 2))
        for prices in ((), (1,), (1, 1), (1, 1, 1, 1), [1, 1, 1], {0: 1, 1: 1, 2: 1}, "111", None):
            self.raises("NoPrices", {}, cheapest, H, F, prices)
        for wrong in NO_PRICES:
            for at in range(3):
                prices = [1, 1, 1]
                prices[at] = wrong
                self.raises("NoPrices", {}, cheapest, H, F, tuple(prices))
        self.refuses_odd("NoPrices", lambda thing: cheapest(H, F, thing))
        self.raises("NoAim", {}, cheapest, THIRTEEN, 13, None)
        self.raises("NoPrices", {}, cheapest, THIRTEEN, ALWAYS, (1,) * 12)
        self.raises("TooMany", {"most": 12}, cheapest, THIRTEEN, ALWAYS, (1,) * 13)

    def test_by_chance(self):
        for chance, hall, aim in chance_halls(142, 200, 7):
            prices = tuple(chance.choice((0, 0, 1, 2, 3, 10 ** 6)) for _ in hall.boards)
            sets = [boards_of(pairing) for pairing in sure_pairings(hall, aim)]
            right = least_lots(len(hall.boards), lambda lot: any(boards <= set(lot) for boards in sets))
            told = cheapest(hall, aim, prices)
            if not right:
                self.assertIsNone(told)
                continue
            # No lot that is enough is cheaper, whether a board could be left out of it or not.
            enough_lots = [lot for lot in lots(len(hall.boards)) if any(boards <= set(lot) for boards in sets)]
            least = min(sum(prices[board] for board in lot) for lot in enough_lots)
            self.tells((least, min(lot for lot in right if sum(prices[board] for board in lot) == least)), told)


class Bars(Case):
    def test_example(self):
        self.tells([(0,)], bars(H, ("some", (0, 2))))

    def test_lots(self):
        self.tells([(0, 1)], bars(H, ("some", (0, 1, 2))))
        self.tells([(1,)], bars(H, ("some", (1, 2))))
        self.tells([()], bars(H, F))
        self.tells([], bars(H, ALWAYS))
        self.tells([()], bars(H, NEVER))
        self.tells([()], bars(fresh_hall(2, 0), 0))
        self.tells([], bars(fresh_hall(2, 0), ALWAYS))
        hall = fresh_hall(2, 2)
        # The pairs are (0, 2), (0, 3), (1, 2), (1, 3): two of them are needed, the first and the last, or the others.
        self.tells([(0, 1), (0, 2), (1, 3), (2, 3)], bars(hall, ("least", 2, (0, 1, 2, 3))))
        self.tells([(0, 1, 2, 3)], bars(hall, ("some", (0, 1, 2, 3))))
        self.assertIsNot(bars(H, F), bars(H, F))

    def test_twelve_pairs(self):
        twelve = joined(fresh_hall(2, 6), Hall((("h", 0, ()),) * 9))
        self.assertEqual(len(pairs(twelve)), 12)
        self.tells([tuple(range(12))], bars(twelve, ("some", tuple(range(8)))))
        self.tells([tuple(range(6)), tuple(range(6, 12))],
                   [lot for lot in bars(twelve, ("least", 2, tuple(range(8)))) if len(lot) == 6])
        # All of the twelve can be in one pairing.
        names = joined(Hall(tuple((name, side, ()) for name in "abcdef" for side in (0, 1))),
                       Hall(tuple((name, side, ()) for name in "ghijkl" for side in (0, 1))))
        self.tells([(at,) for at in range(12)], bars(names, ("least", 12, tuple(range(24)))))
        self.tells([tuple(range(12))], bars(names, ("some", tuple(range(24)))))
        self.assertEqual(len(bars(names, ("least", 6, tuple(range(24))))), 792)
        self.tells([()], bars(names, ("least", 13, tuple(range(24)))))

    def test_many_boards_without_pairs(self):
        alone = joined(joined(fresh_hall(12, 0), fresh_hall(12, 0)), Hall((("h", 0, ()), ("h", 1, ()))))
        self.tells([(0,)], bars(alone, ("some", (24, 25))))

    def test_errors(self):
        self.refuses_odd("NoAim", lambda thing: bars(H, thing), (0, 1, 2))
        more = Hall(fresh_hall(2, 6).boards + (("h", 0, ()), ("h", 1, ())))
        self.assertEqual(len(pairs(more)), 13)
        self.raises("TooMany", {"most": 12}, bars, more, ALWAYS)
        self.raises("TooMany", {"most": 12}, bars, more, NEVER)
        self.raises("NoAim", {}, bars, more, 10)
        self.raises("TooMany", {"most": 12}, bars, joined(fresh_hall(12, 0), fresh_hall(0, 12)), 0)

    def test_by_chance(self):
        sizes = {}
        for _, hall, aim in chance_halls(143, 900, 8):
            couples = pairs(hall)
            if len(couples) > 8:
                continue
            sets = [{couples.index(pair) for pair in pairing} for pairing in sure_pairings(hall, aim)]
            right = least_lots(len(couples), lambda lot: not any(chosen.isdisjoint(lot) for chosen in sets))
            self.tells(right, bars(hall, aim))
            sizes[len(right)] = sizes.get(len(right), 0) + 1
        self.assertGreater(min(sizes[0], sizes[1], sizes[2]), 10)


class Turns(Case):
    def test_lots(self):
        self.tells([()], turns(H, ("some", (0, 2))))
        self.tells([], turns(H, F))
        self.tells([(0,), (1,)], turns(H, ("some", (0, 1))))
        self.tells([()], turns(H, ALWAYS))
        self.tells([], turns(H, NEVER))
        self.tells([(0,), (1,)], turns(fresh_hall(2, 0), ("some", (0, 1))))
        self.tells([(0, 1), (0, 2), (0, 3), (1, 2), (1, 3), (2, 3)],
                   turns(fresh_hall(4, 0), ("least", 2, (0, 1, 2, 3))))
        self.assertIsNot(turns(H, F), turns(H, F))

    def test_lots_that_are_no_more_so_with_more_boards(self):
        # Who changes at both sits at one side of both again.
        hall = fresh_hall(2, 0)
        self.tells([(0,), (1,)], turns(hall, ("some", (0, 1))))
        self.assertIsNone(sure(exchanged(hall, (0, 1)), ("some", (0, 1))))

    def test_begun_boards(self):
        # The word more must be the master's: the guest has played it at its side there.
        self.tells([(0, 1)], turns(Hall((("g", 1, ()), ("g", 0, ("a",)))), ("some", (0, 1))))
        self.tells([()], turns(Hall((("g", 0, ()), ("g", 1, ("a",)))), ("some", (0, 1))))
        self.tells([(0,)], turns(Hall((("g", 1, ()), ("g", 1, ("a",)))), ("some", (0, 1))))
        self.tells([(1,)], turns(Hall((("g", 0, ()), ("g", 0, ("a",)))), ("some", (0, 1))))

    def test_ten_boards(self):
        every = tuple(range(10))
        self.tells([()], turns(fresh_hall(5, 5), ("least", 5, every)))
        self.tells([(at,) for at in range(6)], turns(fresh_hall(6, 4), ("least", 5, every)))

    def test_errors(self):
        self.refuses_odd("NoAim", lambda thing: turns(H, thing), (0, 1, 2))
        eleven = fresh_hall(5, 6)
        self.raises("TooMany", {"most": 10}, turns, eleven, ALWAYS)
        self.raises("TooMany", {"most": 10}, turns, eleven, NEVER)
        self.raises("NoAim", {}, turns, eleven, 11)
        self.raises("TooMany", {"most": 10}, turns, joined(fresh_hall(12, 0), fresh_hall(0, 12)), 0)

    def test_by_chance(self):
        sizes = {}
        for _, hall, aim in chance_halls(144, 150, 5):
            right = least_lots(len(hall.boards), lambda lot: sure_pairings(exchanged(hall, lot), aim) != [])
            self.tells(right, turns(hall, aim))
            sizes[len(right)] = sizes.get(len(right), 0) + 1
            self.assertEqual(right == [()], sure(hall, aim) is not None)
        self.assertGreater(min(sizes[0], sizes[1], sizes[2]), 5)


class Same(Case):
    def test_equal_calls_give_equal_answers(self):
        for _, hall, aim in chance_halls(145, 30, 6):
            for function in (enough, bars, turns):
                self.assertTrue(same(function(hall, aim), function(hall, aim)))


if __name__ == "__main__":
    unittest.main()
