"""12.1 and 12.2: points, and stocks of boards."""

import copy
import random
import unittest

from tests.helpers import Case, all_pairings, chance_hall, fresh_hall, many_pairings, odd_things, outcomes, same
from tests.test_meeting import both_sides, choices, chosen, names_hall
from untoldgames.halls import Hall, joined
from untoldgames.pairs import is_pairing, pairs
from untoldgames.points import met_points, most_points, stock_met, stock_points

H = Hall((("g", 0, ()), ("g", 0, ()), ("g", 1, ())))
BEGUN = Hall((("g", 0, ()), ("g", 1, ("a",))))
CROWD = joined(fresh_hall(12, 0), fresh_hall(0, 12))
ROWS = ((), ("a",), ("b",), ("a", "a"), ("a", "b"))
# What is wrong as one of three points.
NO_NUMBERS = (-1, 10 ** 9 + 1, 10 ** 59, True, False, None, "1", (1,), [1], b"1", {})
STOCK = ("g", 0, 3, 2)
NO_STOCKS = (
    None, (), ("g", 0, 3), ("g", 0, 3, 2, 1), ["g", 0, 3, 2], ("", 0, 3, 2), ("G", 0, 3, 2), ("a" * 9, 0, 3, 2),
    (b"g", 0, 3, 2), (None, 0, 3, 2), (0, 0, 3, 2), ("g", 2, 3, 2), ("g", -1, 3, 2), ("g", True, 3, 2),
    ("g", False, 3, 2), ("g", None, 3, 2), ("g", "0", 3, 2), ("g", 0, -1, 2), ("g", 0, 10 ** 9 + 1, 2),
    ("g", 0, True, 2), ("g", 0, False, 2), ("g", 0, None, 2), ("g", 0, "3", 2), ("g", 0, (3,), 2), ("g", 0, 3, -1),
    ("g", 0, 3, 10 ** 30 + 1), ("g", 0, 3, True), ("g", 0, 3, False), ("g", 0, 3, None), ("g", 0, 3, "2"),
    ("g", 0, 3, [2]), "g032", {"g": 0, "h": 1, "i": 2, "j": 3}, Hall((("g", 0, ()),)), 4)


def sure_points(points, pairing):
    """The points of the outcome of least points, straight by what the document says."""
    return min(sum(points[board] for board in outcome) for outcome in outcomes(pairing))


def stock_hall(stocks):
    """The hall of all boards of some stocks, and their points; None where there are none."""
    boards = tuple((name, side, ()) for name, side, _, number in stocks for _ in range(number))
    points = tuple(one for _, _, one, number in stocks for _ in range(number))
    if not boards:
        return None, ()
    hall = Hall(boards[:12])
    return (hall if len(boards) <= 12 else joined(hall, Hall(boards[12:]))), points


class MostPoints(Case):
    def test_example(self):
        self.tells((4, ((1, 2),)), most_points(H, (3, 5, 4)))

    def test_points(self):
        self.tells((3, ((0, 2),)), most_points(H, (3, 2, 4)))
        number, pairing = most_points(H, (7, 7, 7))
        self.assertEqual(number, 7)
        self.assertIn(pairing, (((0, 2),), ((1, 2),)))
        self.tells((0, ()), most_points(fresh_hall(2, 0), (5, 5)))
        self.assertEqual(most_points(H, (0, 0, 0))[0], 0)
        self.assertEqual(most_points(H, (9, 9, 0))[0], 0)
        self.assertTrue(is_pairing(H, most_points(H, (0, 0, 0))[1]))

    def test_best_pairing(self):
        hall = fresh_hall(2, 2)
        self.tells((6, ((0, 3), (1, 2))), most_points(hall, (1, 5, 5, 1)))
        self.tells((6, ((0, 2), (1, 3))), most_points(hall, (5, 1, 5, 1)))
        # A greatest pairing of fewer pairs may be the best one.
        chain = Hall((("g", 0, ()), ("g", 1, ("a",)), ("g", 0, ("a", "b")), ("g", 1, ("a", "b", "c"))))
        self.assertEqual(pairs(chain), [(0, 1), (1, 2), (2, 3)])
        self.tells((9, ((1, 2),)), most_points(chain, (1, 9, 9, 1)))
        self.tells((10, ((0, 1), (2, 3))), most_points(chain, (5, 9, 9, 5)))

    def test_bounds(self):
        self.assertEqual(most_points(H, (0, 10 ** 9, 10 ** 9)), (10 ** 9, ((1, 2),)))
        for wrong in NO_NUMBERS:
            for at in range(3):
                points = [1, 1, 1]
                points[at] = wrong
                self.raises("NoPoints", {}, most_points, H, tuple(points))
                self.raises("NoPoints", {}, met_points, H, tuple(points))

    def test_many_pairings(self):
        hall = many_pairings(2000)
        self.assertEqual(most_points(hall, (7,) * len(hall.boards))[0], 35)

    def test_errors(self):
        for points in ((), (1,), (1, 1), (1, 1, 1, 1), [1, 1, 1], {0: 1, 1: 1, 2: 1}, "111", None):
            self.raises("NoPoints", {}, most_points, H, points)
        self.refuses_odd("NoPoints", lambda thing: most_points(H, thing))
        self.refuses_odd("NoPoints", lambda thing: most_points(H, (0, 0, thing)), (0, 1, 2))
        more = joined(CROWD, H)
        self.raises("NoPoints", {}, most_points, more, (1,) * 26)
        self.raises("TooMany", {"most": 24}, most_points, more, (1,) * 27)
        self.raises("NoPoints", {}, most_points, CROWD, (1,) * 25)
        self.raises("TooMany", {"most": 2000}, most_points, CROWD, (1,) * 24)
        self.raises("TooMany", {"most": 2000}, most_points, many_pairings(2001), (1,) * 24)

    def test_by_chance(self):
        chance = random.Random(121)
        for _ in range(200):
            hall = chance_hall(chance, 8, chance.choice(("g", "gh")), ROWS[:chance.randint(1, 5)])
            points = tuple(chance.choice((0, 1, 2, 5, 7, 10 ** 9)) for _ in hall.boards)
            number, pairing = most_points(hall, points)
            self.assertTrue(is_pairing(hall, pairing))
            self.assertEqual(number, sure_points(points, pairing))
            self.assertEqual(number, max(sure_points(points, one) for one in all_pairings(pairs(hall))))
            self.assertTrue(same((number, pairing), most_points(hall, points)))


class MetPoints(Case):
    def test_points(self):
        self.tells(4, met_points(H, (3, 5, 4)))
        self.tells(8, met_points(H, (3, 5, 9)))
        self.tells(0, met_points(H, (0, 0, 9)))
        self.tells(0, met_points(fresh_hall(2, 0), (5, 5)))
        hall = Hall((("g", 0, ()), ("h", 0, ()), ("g", 1, ()), ("h", 1, ()), ("i", 0, ())))
        self.tells(5, met_points(hall, (1, 9, 8, 4, 100)))

    def test_many_names(self):
        hall = names_hall("abcdefghijklm")
        self.tells(13 * 10 ** 9, met_points(hall, (10 ** 9,) * 26))
        self.tells(13, met_points(hall, (1, 2) * 13))
        self.tells(12, met_points(CROWD, (1,) * 24))

    def test_errors(self):
        self.raises("NotFresh", {}, met_points, BEGUN, None)
        self.raises("NotFresh", {}, met_points, BEGUN, (1, 1))
        for points in ((), (1,), (1, 1), (1, 1, 1, 1), [1, 1, 1], None):
            self.raises("NoPoints", {}, met_points, H, points)
        self.refuses_odd("NoPoints", lambda thing: met_points(H, thing))

    def test_by_chance(self):
        chance = random.Random(122)
        for _ in range(200):
            hall = chance_hall(chance, 8, "ghi", ((),))
            points = tuple(chance.choice((0, 1, 2, 5, 7, 10 ** 9)) for _ in hall.boards)
            least = min(sum(points[board] for board in chosen(hall, choice)) for choice in choices(both_sides(hall)))
            self.tells(least, met_points(hall, points))


class Stocks(Case):
    def test_example(self):
        self.tells(4, stock_points((("g", 0, 3, 1), ("g", 0, 5, 1), ("g", 1, 4, 1))))

    def test_points(self):
        self.tells(0, stock_points(()))
        self.tells(0, stock_points([]))
        self.tells(0, stock_met([]))
        self.tells(0, stock_points([STOCK]))
        self.tells(0, stock_met([STOCK]))
        self.tells(6, stock_points([STOCK, ("g", 1, 3, 2)]))
        self.tells(3, stock_points([STOCK, ("g", 1, 3, 1)]))
        self.tells(0, stock_points([STOCK, ("h", 1, 3, 2)]))
        self.tells(4, stock_points([STOCK, ("g", 1, 2, 5)]))
        self.tells(6, stock_met([STOCK, ("g", 1, 2, 5)]))
        self.tells(5, stock_met([STOCK, ("g", 1, 5, 1)]))
        self.tells(3, stock_points([STOCK, ("g", 1, 5, 1)]))
        self.tells(9, stock_points([STOCK, ("g", 1, 3, 2), ("h", 0, 4, 1), ("h", 1, 3, 1)]))
        self.tells(0, stock_points([("g", 0, 0, 5), ("g", 1, 0, 5)]))
        self.tells(0, stock_points([STOCK, ("g", 1, 3, 0)]))
        self.tells(0, stock_met([STOCK, ("g", 1, 3, 0)]))

    def test_the_same_stock_again(self):
        self.tells(stock_points([("g", 0, 3, 4), ("g", 1, 3, 3)]), stock_points([STOCK, ("g", 1, 3, 3), STOCK]))
        self.tells(9, stock_points([STOCK, ("g", 1, 3, 3), STOCK]))
        self.tells(9, stock_met([STOCK, ("g", 1, 3, 3), STOCK]))
        self.tells(12, stock_met([STOCK, ("g", 1, 3, 3), STOCK, ("g", 1, 3, 3)]))
        self.tells(300, stock_points([("g", at % 2, 3, 1) for at in range(200)]))

    def test_great_numbers(self):
        most, points = 10 ** 30, 10 ** 9
        self.tells(most * points, stock_points([("g", 0, points, most), ("g", 1, points, most)]))
        self.tells(most * points, stock_met([("g", 0, points, most), ("g", 1, points, most)]))
        self.tells(100 * most * points, stock_points([("g", at % 2, points, most) for at in range(200)]))
        self.tells(100 * most * points, stock_met([("g", at % 2, points, most) for at in range(200)]))
        told = [("g", 0, points, most - 1), ("g", 0, 1, most), ("g", 1, 2, most), ("g", 1, points - 1, 7)]
        self.tells(7 * (points - 1) + (most - 8) * 2 + 8, stock_points(told))

    def test_how_many(self):
        self.tells(0, stock_points([STOCK] * 200))
        for function in (stock_points, stock_met):
            self.raises("NoStocks", {}, function, [STOCK] * 201)
            self.raises("NoStocks", {}, function, (STOCK,) * 201)

    def test_errors(self):
        for function in (stock_points, stock_met):
            for wrong in NO_STOCKS:
                self.raises("NoStocks", {}, function, [wrong])
                self.raises("NoStocks", {}, function, (wrong,))
                self.raises("NoStocks", {}, function, [STOCK, wrong])
                self.raises("NoStocks", {}, function, (wrong, STOCK))
            self.raises("NoStocks", {}, function, {STOCK: 1})
            self.raises("NoStocks", {}, function, STOCK)
            self.refuses_odd("NoStocks", function, [(), []])
            self.refuses_odd("NoStocks", lambda thing: function([thing]))
            for thing in odd_things():
                if not isinstance(thing, str):
                    self.raises("NoStocks", {}, function, [(thing, 0, 3, 2)])
                if not same(thing, 0) and not same(thing, 1):
                    self.raises("NoStocks", {}, function, [("g", thing, 3, 2)])

    def test_arguments_stay(self):
        stocks = [STOCK, ("g", 1, 2, 5), STOCK]
        before = copy.deepcopy(stocks)
        stock_points(stocks)
        stock_met(stocks)
        self.assertEqual(stocks, before)

    def test_against_the_hall_of_all_boards(self):
        chance = random.Random(123)
        seen = 0
        for _ in range(300):
            stocks = [(chance.choice("ghi"), chance.randrange(2), chance.choice((0, 1, 2, 3, 10 ** 9)),
                       chance.randrange(4)) for _ in range(chance.randrange(6))]
            hall, points = stock_hall(stocks)
            if hall is None:
                self.tells((0, 0), (stock_points(stocks), stock_met(stocks)))
            elif len(hall.boards) <= 10:
                seen += 1
                self.tells(most_points(hall, points)[0], stock_points(stocks))
                self.tells(met_points(hall, points), stock_met(stocks))
                self.tells(stock_points(stocks), stock_points(tuple(stocks[::-1])))
        self.assertGreater(seen, 150)


if __name__ == "__main__":
    unittest.main()
