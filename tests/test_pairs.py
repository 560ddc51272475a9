"""5.1: pairs and pairings."""

import itertools
import random
import unittest

from tests.helpers import (
    Case, all_greatest, all_pairings, apart, chance_hall, fresh_hall, many_pairings, odd_things, same)
from tests.test_games import row_of
from untoldgames.halls import Hall, joined, only, turned
from untoldgames.pairs import is_pairing, pairings, pairs

H = Hall((("g", 0, ()), ("g", 0, ()), ("g", 1, ())))
BEGUN = ((), ("a",), ("b",), ("a", "a"), ("a", "b"), ("b", "a"), ("a", "a", "a"))


def hall_of_rows(*boards):
    """A hall of boards of one name, told as (side, row)."""
    return Hall(tuple(("g", side, row) for side, row in boards))


def is_pair(one, other):
    """Whether two boards are a pair, straight by what the document says."""
    if one[0] != other[0] or one[1] == other[1]:
        return False
    if one[2] == other[2]:
        return True
    for shorter, longer in ((one, other), (other, one)):
        master = 1 - longer[1]
        if len(longer[2]) == len(shorter[2]) + 1 and longer[2][:len(shorter[2])] == shorter[2]:
            return len(shorter[2]) % 2 == master
    return False


def told_pairs(hall):
    numbers = range(len(hall.boards))
    return [both for both in itertools.combinations(numbers, 2) if is_pair(*[hall.boards[one] for one in both])]


class Pairs(Case):
    def test_example(self):
        self.tells([(0, 2), (1, 2)], pairs(H))

    def test_alike(self):
        self.tells([(0, 1)], pairs(hall_of_rows((0, ()), (1, ()))))
        self.tells([(0, 1)], pairs(hall_of_rows((1, ()), (0, ()))))
        self.tells([(0, 1)], pairs(hall_of_rows((1, ("a", "b")), (0, ("a", "b")))))
        self.tells([], pairs(hall_of_rows((0, ()), (0, ()))))
        self.tells([], pairs(Hall((("g", 0, ()), ("h", 1, ())))))
        self.tells([], pairs(hall_of_rows((0, ("a",)), (1, ("b",)))))
        self.tells([], pairs(hall_of_rows((0, ()))))

    def test_one_word_apart(self):
        # The first side plays the first word: it is the master's where the guest sits second.
        self.tells([(0, 1)], pairs(hall_of_rows((0, ()), (1, ("a",)))))
        self.tells([(0, 1)], pairs(hall_of_rows((1, ("a",)), (0, ()))))
        self.tells([], pairs(hall_of_rows((1, ()), (0, ("a",)))))
        self.tells([], pairs(hall_of_rows((0, ("a",)), (1, ()))))
        self.tells([(0, 1)], pairs(hall_of_rows((1, ("a",)), (0, ("a", "b")))))
        self.tells([], pairs(hall_of_rows((0, ("a",)), (1, ("a", "b")))))
        self.tells([], pairs(hall_of_rows((1, ("b",)), (0, ("a", "b")))))
        self.tells([], pairs(hall_of_rows((0, ()), (1, ("a", "b")))))
        self.tells([], pairs(hall_of_rows((0, ()), (1, ("a", "b", "c")))))
        self.tells([], pairs(hall_of_rows((1, ("a",)), (1, ("a", "b")))))
        self.tells([], pairs(Hall((("g", 0, ()), ("h", 1, ("a",))))))
        self.tells([(0, 1)], pairs(hall_of_rows((0, row_of(20)), (1, row_of(20)))))
        self.tells([(0, 1)], pairs(hall_of_rows((1, row_of(19)), (0, row_of(20)))))
        self.tells([], pairs(hall_of_rows((0, row_of(19)), (1, row_of(20)))))

    def test_order(self):
        self.tells([(0, 1), (0, 3), (1, 2), (2, 3)], pairs(hall_of_rows((0, ()), (1, ()), (0, ()), (1, ()))))
        self.assertEqual(pairs(fresh_hall(6, 6)), [(one, other) for one in range(6) for other in range(6, 12)])
        self.assertEqual(len(pairs(joined(fresh_hall(12, 0), fresh_hall(0, 12)))), 144)
        self.assertEqual(len(pairs(joined(joined(fresh_hall(12, 0), fresh_hall(0, 12)), fresh_hall(0, 12)))), 288)
        self.assertIsNot(pairs(H), pairs(H))

    def test_by_chance(self):
        chance = random.Random(21)
        for _ in range(300):
            hall = chance_hall(chance, 12, "gh", BEGUN)
            self.tells(told_pairs(hall), pairs(hall))


class IsPairing(Case):
    def test_pairings(self):
        for pairing in ((), ((0, 2),), ((1, 2),)):
            self.assertIs(is_pairing(H, pairing), True)
        hall = fresh_hall(2, 2)
        for pairing in ((), ((0, 3),), ((0, 2), (1, 3)), ((0, 3), (1, 2))):
            self.assertIs(is_pairing(hall, pairing), True)

    def test_no_pairings(self):
        hall = fresh_hall(2, 2)
        for thing in (
                [], [(0, 2)], ([0, 2],), ((2, 0),), ((0, 1),), ((0, 2), (0, 2)), ((1, 3), (0, 2)), ((0, 2), (0, 3)),
                ((0, 2), (1, 2)), ((False, 2),), ((0, 2), (True, 3)), ((0, 2, 3),), ((0,),), (0, 2), ((0, 4),), (None,),
                ((0, 2), None), ((0, 2), ()), ({},), (((0, 2),),), ((0, (2,)),), ((0, [2]),), {}, {(0, 2): 1}, "0-2"):
            self.assertIs(is_pairing(hall, thing), False, thing)

    def test_odd(self):
        self.judges_odd(lambda thing: is_pairing(H, thing), [()])
        self.judges_odd(lambda thing: is_pairing(fresh_hall(1, 1), thing), [(), ((0, 1),)])
        for thing in odd_things():
            self.assertIs(is_pairing(fresh_hall(1, 1), (thing,)), same(thing, (0, 1)))

    def test_large_halls(self):
        hall = joined(joined(fresh_hall(12, 0), fresh_hall(0, 12)), fresh_hall(0, 1))
        self.assertIs(is_pairing(hall, tuple((board, board + 12) for board in range(12))), True)
        self.assertIs(is_pairing(hall, tuple((board, board + 13) for board in range(12))), True)
        self.assertIs(is_pairing(hall, ((0, 25),)), False)

    def test_by_chance(self):
        chance = random.Random(22)
        for _ in range(100):
            hall = chance_hall(chance, 7, "g", BEGUN)
            couples = told_pairs(hall)
            for size in range(4):
                for thing in itertools.combinations(couples, size):
                    self.assertIs(is_pairing(hall, thing), apart(thing))


class Pairings(Case):
    def test_example(self):
        self.tells([((0, 2),), ((1, 2),)], pairings(H))

    def test_halls(self):
        self.tells([()], pairings(hall_of_rows((0, ()))))
        self.tells([()], pairings(hall_of_rows((0, ()), (0, ()))))
        self.tells([((0, 2), (1, 3)), ((0, 3), (1, 2))], pairings(fresh_hall(2, 2)))
        # A chain of four boards: its middle pair alone is greatest, too.
        chain = hall_of_rows((1, ()), (0, ()), (1, ("a",)), (0, ("a", "b")))
        self.tells([(0, 1), (1, 2), (2, 3)], pairs(chain))
        self.tells([((0, 1), (2, 3)), ((1, 2),)], pairings(chain))
        self.assertIsNot(pairings(H), pairings(H))

    def test_by_chance(self):
        chance = random.Random(23)
        for _ in range(250):
            hall = chance_hall(chance, 8, chance.choice(("g", "gh")), BEGUN[:chance.randint(1, 7)])
            self.tells(all_greatest(told_pairs(hall)), pairings(hall))

    def test_large_halls_by_chance(self):
        chance = random.Random(24)
        seen = 0
        while seen < 15:
            hall = joined(chance_hall(chance, 12, "ghi", BEGUN), chance_hall(chance, 12, "ghi", BEGUN))
            if len(hall.boards) < 14 or len(told_pairs(hall)) > 16:
                continue
            seen += 1
            self.tells(all_greatest(told_pairs(hall)), pairings(hall))

    def test_number_of_boards(self):
        lone = joined(fresh_hall(12, 0), fresh_hall(12, 0))
        self.tells([()], pairings(lone))
        self.raises("TooMany", {"most": 24}, pairings, joined(lone, fresh_hall(1, 0)))
        self.raises("TooMany", {"most": 24}, pairings, joined(joined(lone, fresh_hall(0, 12)), fresh_hall(6, 6)))
        self.raises("TooMany", {"most": 2000}, pairings, joined(fresh_hall(12, 0), fresh_hall(0, 12)))

    def test_number_of_pairings(self):
        self.assertEqual(len(pairings(joined(fresh_hall(3, 8), fresh_hall(0, 5)))), 13 * 12 * 11)
        told = pairings(many_pairings(2000))
        self.assertEqual(len(told), 2000)
        self.assertEqual(told, sorted(set(told)))
        hall = many_pairings(2001)
        self.assertEqual(len(hall.boards), 24)
        parts = [[number for number in range(24) if hall.boards[number][0] == name] for name in hall.names]
        self.assertEqual([len(pairings(only(hall, tuple(part)))) for part in parts], [29, 69])
        self.raises("TooMany", {"most": 2000}, pairings, hall)
        self.raises("TooMany", {"most": 2000}, pairings, turned(joined(fresh_hall(3, 8), fresh_hall(0, 6))))
        self.raises("TooMany", {"most": 2000}, pairings, joined(fresh_hall(5, 5), fresh_hall(3, 3)))

    def test_parts_of_many_pairings(self):
        hall = many_pairings(2001)
        for name in hall.names:
            part = only(hall, tuple(number for number in range(24) if hall.boards[number][0] == name))
            self.tells(all_greatest(told_pairs(part)), pairings(part))
            self.assertLess(len(pairings(part)), len(all_pairings(told_pairs(part))))


if __name__ == "__main__":
    unittest.main()
