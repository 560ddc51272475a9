"""4.1 and 4.2: aims, and the lots that reach them."""

import itertools
import random
import unittest

from tests.helpers import Case, chance_aim, fresh_hall, nested_tuple, odd_things, reaches, shown
from untoldgames.aims import dual, is_aim, least_won, moved, reached, same_aims
from untoldgames.halls import Hall, joined, only

H = Hall((("g", 0, ()), ("g", 0, ()), ("g", 1, ())))
F = ("some", (("all", (0, 1)), 2))
TWELVE = fresh_hall(6, 6)
THIRTEEN = joined(fresh_hall(6, 6), fresh_hall(1, 0))
# Right aims of any hall among the odd things; those for H have numbers below 3.
ODD_AIMS = (0, 1, 2)


def deep_aim(deep, inmost=0):
    """An aim that is so deep, if what stands inmost is 1 deep."""
    aim = inmost
    for at in range(deep - 1):
        aim = (("all", (aim,)), ("some", (aim,)), ("least", 1, (aim,)))[at % 3]
    return aim


def large_aim(many):
    """An aim of so many aims in all, itself counted, from 177 to 201."""
    return ("all", (("some", (0,) * 24),) * 7 + (("all", (1,) * (many - 177)),))


def count(aim):
    return 1 if isinstance(aim, int) else 1 + sum(count(part) for part in aim[-1])


def lots(many):
    """All lots of so many boards."""
    return [lot for size in range(many + 1) for lot in itertools.combinations(range(many), size)]


class IsAim(Case):
    def test_aims(self):
        for aim in (
                0, 1, 2, F, ("all", ()), ("some", ()), ("all", (0,)), ("some", (0, 0, 0)), ("least", 0, ()),
                ("least", 2, (0, 1, 2)), ("least", 25, ()), ("least", 3, (("all", ()), ("some", (F, F)), 1))):
            self.assertIs(is_aim(H, aim), True, aim)

    def test_no_aims(self):
        for thing in (
                3, -1, 10 ** 6, True, False, None, "0", (0,), ("all",), ("all", 0), ("all", [0]), ["all", (0,)],
                ("any", (0,)), ("all", (3,)), ("all", (0, -1)), ("all", (True,)), ("some", (0, False)), ("some", None),
                ("all", 1, (0,)), ("some", 1, (0,)), ("least", (0,)), ("least", 1, [0]), ("least", 1, 0),
                ("least", True, (0,)), ("least", "1", (0,)), ("least", None, (0,)), ("least", 1, (0,), ()),
                ("all", ("all", ())), ("all", ((),)), (("all", ()),), ("all", (), ()), ("some", (F, 3)),
                ("all", {0: 1}), ("all", ("some", (0,))), ("ALL", ()), ("all ", ()), ("", ()), (0, ()), b"all", {}, []):
            self.assertIs(is_aim(H, thing), False, thing)

    def test_numbers_of_boards(self):
        self.assertIs(is_aim(TWELVE, 11), True)
        self.assertIs(is_aim(TWELVE, 12), False)
        self.assertIs(is_aim(THIRTEEN, 12), True)
        self.assertIs(is_aim(THIRTEEN, ("all", (13,))), False)

    def test_depth(self):
        for deep in range(1, 9):
            self.assertIs(is_aim(H, deep_aim(deep)), True)
            self.assertIs(is_aim(H, deep_aim(deep, ("all", ()))), True)
        for deep in (9, 10, 38):
            self.assertIs(is_aim(H, deep_aim(deep)), False)
            self.assertIs(is_aim(H, deep_aim(deep, ("some", ()))), False)
        self.assertIs(is_aim(H, ("all", (0, deep_aim(7)))), True)
        self.assertIs(is_aim(H, ("all", (0, deep_aim(8)))), False)

    def test_number_of_parts(self):
        for kind in (("all",), ("some",), ("least", 3)):
            self.assertIs(is_aim(H, kind + ((0,) * 24,)), True)
            self.assertIs(is_aim(H, kind + ((0,) * 25,)), False)
            self.assertIs(is_aim(H, ("all", (kind + ((0,) * 25,),))), False)

    def test_number_of_all_aims(self):
        for many, expected in ((199, True), (200, True), (201, False)):
            self.assertEqual(count(large_aim(many)), many)
            self.assertIs(is_aim(H, large_aim(many)), expected)
            # An aim without parts counts like a number.
            self.assertIs(is_aim(H, ("some", (large_aim(many - 2), ("all", ())))), expected)
        self.assertIs(is_aim(H, ("all", (("all", ()),) * 24)), True)
        self.assertIs(is_aim(H, ("all", (("all", (("all", ()),) * 8),) * 22)), True)
        self.assertIs(is_aim(H, ("all", (("all", (("all", ()),) * 8),) * 23)), False)

    def test_least(self):
        for number in (0, 1, 24, 25):
            self.assertIs(is_aim(H, ("least", number, (0, 1))), True)
            self.assertIs(is_aim(H, ("least", number, ())), True)
        for number in (-1, 26, 10 ** 59, True, False):
            self.assertIs(is_aim(H, ("least", number, (0, 1))), False)

    def test_odd(self):
        self.judges_odd(lambda thing: is_aim(H, thing), ODD_AIMS)
        self.assertIs(is_aim(H, nested_tuple(40, 0)), False)
        for thing in odd_things():
            expected = type(thing) is int and 0 <= thing < 3
            self.assertIs(is_aim(H, ("all", (thing,))), expected, shown(thing))
            self.assertIs(is_aim(H, ("least", 1, (0, thing))), expected, shown(thing))
            self.assertIs(is_aim(H, (thing, (0,))), thing == "all" and isinstance(thing, str), shown(thing))


class Reached(Case):
    def test_example(self):
        self.assertIs(reached(H, ("least", 2, (0, 1, 2)), (0, 2)), True)

    def test_kinds(self):
        for aim, expected in (
                (0, [(0,), (0, 1), (0, 2), (0, 1, 2)]),
                (2, [(2,), (0, 2), (1, 2), (0, 1, 2)]),
                (("all", (0, 1)), [(0, 1), (0, 1, 2)]),
                (("some", (0, 1)), [(0,), (1,), (0, 1), (0, 2), (1, 2), (0, 1, 2)]),
                (F, [(2,), (0, 1), (0, 2), (1, 2), (0, 1, 2)]),
                (("all", ()), lots(3)), (("some", ()), []),
                (("least", 0, ()), lots(3)), (("least", 1, ()), []), (("least", 25, (0,) * 24), []),
                (("least", 24, (0,) * 24), [(0,), (0, 1), (0, 2), (0, 1, 2)]),
                (("least", 2, (0, 1, 2)), [(0, 1), (0, 2), (1, 2), (0, 1, 2)]),
                (("least", 3, (0, 0, 1)), [(0, 1), (0, 1, 2)]),
                (("least", 2, (0, 0, 1)), [(0,), (0, 1), (0, 2), (0, 1, 2)])):
            for lot in lots(3):
                self.assertIs(reached(H, aim, lot), lot in expected, (aim, lot))

    def test_by_chance(self):
        chance = random.Random(11)
        for _ in range(400):
            many = chance.randint(1, 12)
            hall = only(TWELVE, tuple(range(many)))
            aim = chance_aim(chance, many)
            won = tuple(board for board in range(many) if chance.random() < 0.5)
            self.assertIs(reached(hall, aim, won), reaches(aim, won), (aim, won))

    def test_large_halls(self):
        hall = joined(TWELVE, TWELVE)
        self.assertIs(reached(hall, ("all", tuple(range(24))), tuple(range(24))), True)
        self.assertIs(reached(hall, ("all", tuple(range(24))), tuple(range(23))), False)
        self.assertIs(reached(hall, 23, (23,)), True)

    def test_errors(self):
        self.refuses_odd("NoAim", lambda thing: reached(H, thing, None), ODD_AIMS)
        self.refuses_odd("NoLot", lambda thing: reached(H, F, thing), [(), (0,), (1,), (0, 1)])
        for lot in ([0], (1, 0), (0, 0), (3,), (0, 3), (-1,), (True,), (0, True), "0", range(2)):
            self.raises("NoLot", {}, reached, H, F, lot)
        self.raises("NoAim", {}, reached, H, 3, (3,))


class Dual(Case):
    def test_examples(self):
        self.tells(("least", 2, (0, 1, 2)), dual(H, ("least", 2, (0, 1, 2))))
        self.tells(("all", (("some", (0, 1)), 2)), dual(H, F))
        self.tells(1, dual(H, 1))
        self.tells(("some", ()), dual(H, ("all", ())))
        self.tells(("all", ()), dual(H, ("some", ())))

    def test_least(self):
        for number, parts, expected in (
                (0, (), 1), (1, (), 0), (25, (), 0), (0, (0,), 2), (1, (0,), 1), (2, (0,), 0), (3, (0,), 0),
                (0, (0,) * 24, 25), (25, (0,) * 24, 0), (24, (0,) * 24, 1), (1, (0,) * 24, 24)):
            self.tells(("least", expected, parts), dual(H, ("least", number, parts)))
        self.tells(("least", 1, (("some", (0, 1)), F)), dual(H, ("least", 2, (("all", (0, 1)), dual(H, F)))))

    def test_bounds(self):
        self.tells(("some", (("all", (0,)),)), dual(H, ("all", (("some", (0,)),))))
        self.assertTrue(is_aim(H, dual(H, large_aim(200))))
        self.assertTrue(is_aim(H, dual(H, deep_aim(8))))

    def test_by_chance(self):
        chance = random.Random(12)
        for _ in range(150):
            many = chance.randint(1, 5)
            hall = only(TWELVE, tuple(range(many)))
            aim = chance_aim(chance, many)
            other = dual(hall, aim)
            self.assertTrue(is_aim(hall, other))
            for lot in lots(many):
                rest = tuple(board for board in range(many) if board not in lot)
                self.assertEqual(reached(hall, other, lot), not reached(hall, aim, rest))

    def test_errors(self):
        self.refuses_odd("NoAim", lambda thing: dual(H, thing), ODD_AIMS)
        self.raises("NoAim", {}, dual, H, deep_aim(9))
        self.raises("NoAim", {}, dual, H, 3)
        self.raises("NoAim", {}, dual, H, ("least", 26, (0,)))


class Moved(Case):
    def test_aims(self):
        self.tells(7, moved(3, 4))
        self.tells(("some", (("all", (5, 6)), 7)), moved(F, 5))
        self.tells(("least", 2, (10, ("some", ()), 12)), moved(("least", 2, (0, ("some", ()), 2)), 10))
        self.tells(F, moved(F, 0))
        self.tells(("all", ()), moved(("all", ()), 1000))
        self.tells(("least", 25, ()), moved(("least", 25, ()), 7))

    def test_numbers(self):
        self.tells(10 ** 6, moved(10 ** 6, 0))
        self.tells(10 ** 6, moved(10 ** 6 - 1000, 1000))
        self.raises("NoNumber", {}, moved, 10 ** 6, 1)
        self.raises("NoNumber", {}, moved, 10 ** 6 - 999, 1000)
        self.raises("NoNumber", {}, moved, ("all", (0, ("some", (10 ** 6 - 4, 7)))), 5)
        self.tells(("all", (4, ("some", (10 ** 6, 11)))), moved(("all", (0, ("some", (10 ** 6 - 4, 7)))), 4))
        self.raises("NoAim", {}, moved, 10 ** 6 + 1, 0)
        self.raises("NoAim", {}, moved, ("all", (10 ** 6 + 1,)), 0)
        for by in (0, 1, 999, 1000):
            self.tells(("all", (by,)), moved(("all", (0,)), by))
        for by in (1001, -1, 10 ** 59, True, False, None, "1", (1,)):
            self.raises("NoNumber", {}, moved, ("all", (0,)), by)
            self.raises("NoNumber", {}, moved, ("all", ()), by)

    def test_bounds(self):
        self.assertEqual(count(moved(large_aim(200), 9)), 200)
        self.raises("NoAim", {}, moved, large_aim(201), 9)
        self.raises("NoAim", {}, moved, deep_aim(9), 9)
        self.assertTrue(is_aim(TWELVE, moved(deep_aim(8), 11)))

    def test_errors(self):
        self.refuses_odd("NoAim", lambda thing: moved(thing, None), ODD_AIMS)
        self.refuses_odd("NoNumber", lambda thing: moved(F, thing), (0, 1, 2))
        self.raises("NoAim", {}, moved, 10 ** 59, 0)


class LeastWon(Case):
    def test_example(self):
        self.tells([(0, 1), (2,)], least_won(H, F))

    def test_lots(self):
        self.tells([()], least_won(H, ("all", ())))
        self.tells([], least_won(H, ("some", ())))
        self.tells([()], least_won(H, ("some", (0, ("least", 0, ())))))
        self.tells([(0, 1), (0, 2), (1, 2)], least_won(H, ("least", 2, (0, 1, 2))))
        self.tells([(0,), (1,), (2,)], least_won(H, ("some", (2, 1, 0))))
        self.tells([(0, 1, 2)], least_won(H, ("all", (2, 1, 0))))
        self.tells([(0,)], least_won(H, ("some", (0, ("all", (0, 1))))))
        self.assertIsNot(least_won(H, F), least_won(H, F))

    def test_number_of_boards(self):
        self.tells([tuple(range(12))], least_won(TWELVE, ("all", tuple(range(12)))))
        self.tells([(board,) for board in range(12)], least_won(TWELVE, ("some", tuple(range(12)))))
        self.assertEqual(len(least_won(TWELVE, ("least", 6, tuple(range(12))))), 924)
        self.raises("TooMany", {"most": 12}, least_won, THIRTEEN, 0)
        self.raises("NoAim", {}, least_won, THIRTEEN, 13)

    def test_by_chance(self):
        chance = random.Random(13)
        for _ in range(60):
            many = chance.randint(1, 6)
            aim = chance_aim(chance, many)
            self.check(only(TWELVE, tuple(range(many))), aim)
        for _ in range(3):
            self.check(TWELVE, chance_aim(chance, 12))

    def check(self, hall, aim):
        right = [lot for lot in lots(len(hall.boards)) if reaches(aim, lot)]
        least = [lot for lot in right if not any(
            reaches(aim, tuple(one for one in lot if one != board)) for board in lot)]
        self.tells(sorted(least), least_won(hall, aim))

    def test_errors(self):
        self.refuses_odd("NoAim", lambda thing: least_won(H, thing), ODD_AIMS)


class SameAims(Case):
    def test_aims(self):
        self.assertIs(same_aims(H, F, ("all", (("some", (0, 2)), ("some", (1, 2))))), True)
        self.assertIs(same_aims(H, F, ("least", 2, (0, 1, 2))), False)
        self.assertIs(same_aims(H, F, F), True)
        self.assertIs(same_aims(H, 0, 1), False)
        self.assertIs(same_aims(H, ("all", ()), ("least", 0, (0,))), True)
        self.assertIs(same_aims(H, ("some", ()), ("all", ())), False)
        self.assertIs(same_aims(H, ("some", ()), ("least", 2, (0,))), True)

    def test_number_of_boards(self):
        everything = tuple(range(12))
        self.assertIs(same_aims(TWELVE, ("least", 12, everything), ("all", everything)), True)
        # Some of these are told apart by a single lot, some by the last boards alone.
        self.assertIs(same_aims(TWELVE, ("some", ()), ("all", everything)), False)
        self.assertIs(same_aims(TWELVE, ("all", ()), ("some", everything)), False)
        self.assertIs(same_aims(TWELVE, ("some", (0, ("all", (10, 11)))), 0), False)
        self.assertIs(same_aims(TWELVE, 10, 11), False)
        self.raises("TooMany", {"most": 12}, same_aims, THIRTEEN, 0, 0)
        self.raises("NoAim", {}, same_aims, THIRTEEN, 13, 0)
        self.raises("NoAim", {}, same_aims, THIRTEEN, 0, 13)

    def test_by_chance(self):
        chance = random.Random(14)
        for _ in range(300):
            many = chance.randint(1, 3)
            hall = only(TWELVE, tuple(range(many)))
            one, other = chance_aim(chance, many, 2), chance_aim(chance, many, 2)
            expected = all(reaches(one, lot) == reaches(other, lot) for lot in lots(many))
            self.assertIs(same_aims(hall, one, other), expected)

    def test_errors(self):
        self.refuses_odd("NoAim", lambda thing: same_aims(H, thing, 0), ODD_AIMS)
        self.refuses_odd("NoAim", lambda thing: same_aims(H, 0, thing), ODD_AIMS)


if __name__ == "__main__":
    unittest.main()
