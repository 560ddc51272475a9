"""3.1 and 3.2: boards, halls, games for a hall."""

import random
import unittest

from tests.helpers import Case, chance_game, chance_hall, fresh_hall, odd_things, same
from tests.test_games import CHAIN, row_of, wide_of
from untoldgames.games import is_game
from untoldgames.halls import Hall, are_games, is_fresh, joined, least_games, only, turned

BOARD = ("g", 0, ())


class Halls(Case):
    def test_attributes(self):
        boards = (("h", 1, ("a", "b")), ("g", 0, ()), ("h", 0, ("c",)), ("abcdefgh", 1, ()))
        hall = Hall(boards)
        self.tells(boards, hall.boards)
        self.tells(("abcdefgh", "g", "h"), hall.names)
        self.tells(("g",), Hall((BOARD, BOARD)).names)

    def test_number_of_boards(self):
        self.assertEqual(len(Hall((BOARD,) * 12).boards), 12)
        self.raises("BadHall", {"at": -1}, Hall, (BOARD,) * 13)
        self.raises("BadHall", {"at": -1}, Hall, ())
        self.raises("BadHall", {"at": -1}, Hall, [BOARD])
        self.raises("BadHall", {"at": -1}, Hall, (None,) * 13)
        self.raises("BadHall", {"at": 0}, Hall, (None,) * 12)

    def test_first_wrong_board(self):
        self.raises("BadHall", {"at": 0}, Hall, (None, BOARD, None))
        self.raises("BadHall", {"at": 1}, Hall, (BOARD, None, None))
        self.raises("BadHall", {"at": 11}, Hall, (BOARD,) * 11 + ([],))

    def test_names(self):
        self.assertEqual(Hall((("abcdefgh", 0, ()),)).names, ("abcdefgh",))
        self.assertEqual(Hall((("z", 0, ()),)).names, ("z",))
        for name in ("abcdefghi", "", "G", "g1", "g h", "g\n", b"g", None, 0, ("g",), "`", "{"):
            self.raises("BadHall", {"at": 0}, Hall, ((name, 0, ()),))

    def test_sides(self):
        for side in (True, False, 2, -1, None, "0", "first", (0,), 10 ** 59):
            self.raises("BadHall", {"at": 0}, Hall, (("g", side, ()),))

    def test_begun(self):
        self.assertEqual(Hall((("g", 0, row_of(20)),)).boards[0][2], row_of(20))
        self.assertEqual(Hall((("g", 0, ("a" * 20,)),)).boards[0][2], ("a" * 20,))
        for begun in (row_of(21), ("a" * 21,), ["a"], "a", None, (1,), ("",), (("a",),), 0, {}, {"a": 1}, ("A",)):
            self.raises("BadHall", {"at": 1}, Hall, (BOARD, ("g", 0, begun)))

    def test_no_triples(self):
        for board in (("g", 0), ("g", 0, (), ()), ["g", 0, ()], "g0a", (), ("g",), {"g": 0}, Hall((BOARD,))):
            self.raises("BadHall", {"at": 0}, Hall, (board,))

    def test_odd(self):
        for thing in odd_things():
            at = 0 if isinstance(thing, tuple) and 1 <= len(thing) <= 12 else -1
            if same(thing, (BOARD,)):
                continue
            self.raises("BadHall", {"at": at}, Hall, thing)
            if not same(thing, BOARD):
                self.raises("BadHall", {"at": 2}, Hall, (BOARD, BOARD, thing))

    def test_equality(self):
        hall = Hall((BOARD, ("h", 1, ("a",))))
        self.assertTrue(hall == Hall((BOARD, ("h", 1, ("a",)))))
        self.assertFalse(hall != Hall((BOARD, ("h", 1, ("a",)))))
        for boards in ((BOARD,), (("h", 1, ("a",)), BOARD), (BOARD, ("h", 1, ())), (BOARD, ("h", 0, ("a",)))):
            self.assertFalse(hall == Hall(boards))
            self.assertTrue(hall != Hall(boards))
        for thing in odd_things():
            if not isinstance(thing, Hall):
                self.assertFalse(hall == thing)
                self.assertFalse(thing == hall)
                self.assertTrue(hall != thing)
        self.assertFalse(hall == hall.boards)


class Fresh(Case):
    def test_halls(self):
        self.assertIs(is_fresh(Hall((BOARD, ("h", 1, ())))), True)
        self.assertIs(is_fresh(Hall((BOARD, ("h", 1, ("a",))))), False)
        self.assertIs(is_fresh(Hall((("h", 1, ("a",)), BOARD))), False)
        self.assertIs(is_fresh(joined(fresh_hall(6, 6), fresh_hall(6, 6))), True)
        self.assertIs(is_fresh((BOARD,)), False)

    def test_odd(self):
        for thing in odd_things():
            self.assertIs(is_fresh(thing), isinstance(thing, Hall))


class Turned(Case):
    def test_halls(self):
        hall = Hall((BOARD, ("h", 1, ("a",))))
        told = turned(hall)
        self.assertIs(type(told), Hall)
        self.tells((("g", 1, ()), ("h", 0, ("a",))), told.boards)
        self.tells(("g", "h"), told.names)
        self.assertEqual(turned(told), hall)
        self.tells((BOARD, ("h", 1, ("a",))), hall.boards)

    def test_many_boards(self):
        hall = joined(fresh_hall(12, 0), fresh_hall(3, 9))
        self.tells(fresh_hall(0, 12).boards + (("g", 1, ()),) * 3 + (("g", 0, ()),) * 9, turned(hall).boards)


class Joined(Case):
    def test_halls(self):
        one, other = Hall((("h", 1, ("a",)), BOARD)), Hall((("b", 0, ()), ("h", 0, ())))
        told = joined(one, other)
        self.assertIs(type(told), Hall)
        self.tells((("h", 1, ("a",)), BOARD, ("b", 0, ()), ("h", 0, ())), told.boards)
        self.tells(("b", "g", "h"), told.names)
        self.tells((("h", 1, ("a",)), BOARD), one.boards)

    def test_number_is_not_bounded(self):
        self.assertEqual(len(joined(fresh_hall(6, 6), fresh_hall(1, 0)).boards), 13)
        twice = joined(fresh_hall(6, 6), fresh_hall(6, 6))
        self.assertEqual(len(twice.boards), 24)
        self.assertEqual(len(joined(twice, twice).boards), 48)
        self.assertEqual(joined(twice, twice), joined(twice, twice))
        self.assertNotEqual(joined(twice, twice), twice)


class Only(Case):
    def test_halls(self):
        hall = Hall((BOARD, ("h", 1, ("a",)), ("b", 0, ("c",))))
        self.tells((BOARD, ("b", 0, ("c",))), only(hall, (0, 2)).boards)
        self.tells(("b", "g"), only(hall, (0, 2)).names)
        self.assertEqual(only(hall, (0, 1, 2)), hall)
        self.tells((("h", 1, ("a",)),), only(hall, (1,)).boards)

    def test_many_boards(self):
        hall = joined(fresh_hall(12, 0), fresh_hall(0, 12))
        self.tells(hall.boards[5:24], only(hall, tuple(range(5, 24))).boards)
        self.raises("NoLot", {}, only, hall, (24,))

    def test_errors(self):
        hall = Hall((BOARD, BOARD, BOARD))
        for lot in ((), (3,), (0, 3), (-1, 0), (1, 0), (1, 1), [0, 1], (True,), (0, True), (False, 1), None, "0", 0):
            self.raises("NoLot", {}, only, hall, lot)
        self.refuses_odd("NoLot", lambda thing: only(hall, thing), [(0,), (1,), (0, 1)])


class Games(Case):
    HALL = Hall((("g", 0, ("a",)), ("h", 1, ()), ("g", 1, ("b", "c"))))
    GAME = ((), ("a",), ("b",), ("b", "c"))

    def test_games(self):
        self.assertIs(are_games(self.HALL, {"g": self.GAME, "h": ((),)}), True)
        self.assertIs(are_games(self.HALL, {"h": wide_of(600), "g": self.GAME + (("c",),)}), True)
        self.assertIs(are_games(Hall((BOARD,)), {"g": CHAIN}), True)

    def test_no_games(self):
        for thing in (
                None, {}, [("g", self.GAME), ("h", ((),))], {"g": self.GAME}, {"h": ((),)},
                {"g": self.GAME, "h": ((),), "i": ((),)}, {"g": self.GAME, "i": ((),)},
                {"g": self.GAME, "h": ()}, {"g": self.GAME, "h": [()]}, {"g": self.GAME[:3], "h": ((),)},
                {"g": ((), ("b",), ("b", "c")), "h": ((),)}, {"g": list(self.GAME), "h": ((),)},
                {"g": None, "h": None}, {"g": self.GAME, "h": {}}, {"g": self.GAME, 1: ((),)},
                {"g": self.GAME, ("h",): ((),)}, {"g": self.GAME, b"h": ((),)}, {"g": self.GAME, "h": wide_of(601)}):
            self.assertIs(are_games(self.HALL, thing), False, thing)

    def test_odd(self):
        self.judges_odd(lambda thing: are_games(Hall((BOARD,)), thing), [{"g": ((),)}])
        for thing in odd_things():
            self.assertIs(are_games(self.HALL, {"g": self.GAME, "h": thing}), is_game(thing))

    def test_least_games(self):
        hall = Hall((("g", 0, ("b", "c")), ("h", 1, ()), ("g", 1, ("a",)), ("g", 0, ())))
        told = least_games(hall)
        self.tells({"g": self.GAME, "h": ((),)}, told)
        self.assertIsNot(least_games(hall), told)
        self.tells({"g": ((),)}, least_games(joined(fresh_hall(6, 6), fresh_hall(6, 6))))

    def test_least_games_of_many_boards(self):
        hall = Hall(tuple(("g", 0, (word,) + row_of(19)) for word in "abcdefghijkl"))
        more = Hall(tuple(("g", 0, (word,) + row_of(19)) for word in "mnopqrstuvwx"))
        self.assertEqual(len(least_games(joined(hall, more))["g"]), 481)
        self.assertTrue(are_games(joined(hall, more), least_games(joined(hall, more))))
        crowd = fresh_hall(6, 6)
        for _ in range(6):
            crowd = joined(crowd, crowd)
        self.assertEqual(len(crowd.boards), 768)
        self.tells({"g": ((),)}, least_games(crowd))

    def test_by_chance(self):
        chance = random.Random(8)
        for _ in range(200):
            hall = chance_hall(chance)
            games = {name: chance_game(chance) for name in hall.names}
            right = all(begun in games[name] for name, _, begun in hall.boards)
            self.assertIs(are_games(hall, games), right)
            least = least_games(hall)
            self.assertTrue(are_games(hall, least))
            for name in hall.names:
                for row in least[name][1:]:
                    less = tuple(one for one in least[name] if one != row)
                    self.assertFalse(are_games(hall, {**least, name: less}))
                if right:
                    self.assertTrue(set(least[name]) <= set(games[name]))


if __name__ == "__main__":
    unittest.main()
