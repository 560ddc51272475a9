"""19.1: guests and masters who know all games."""

import copy
import random
import unittest

from tests.helpers import Case, chance_games, chance_hall, chance_masters, fresh_hall, odd_things, same, words_at
from tests.test_games import chain_of, row_of
from untoldgames.halls import Hall, joined
from untoldgames.knowing import told_answer, told_move, told_won
from untoldgames.playing import led

# The first side wins by b; behind a the second one wins by c, and loses by b.
GAME = ((), ("a",), ("a", "b"), ("a", "b", "a"), ("a", "c"), ("b",))
GAMES = {"g": GAME, "h": ((), ("x",), ("x", "y"), ("z",), ("z", "y"))}
HALL = Hall((("g", 0, ()), ("g", 1, ()), ("h", 0, ()), ("h", 1, ()), ("g", 1, ("a",)), ("g", 0, ("a",))))
BEGUN = ((), ("a",), ("b",), ("a", "a"), ("a", "b"))
NO_GAMES = (None, {}, {"g": GAME}, {**GAMES, "i": ((),)}, {"g": ((), ("b",)), "h": ((),)}, {"g": GAME, "h": ()})


def side_wins(game, row, side):
    """Whether a side wins from a row on, by going through all that can follow."""
    words = words_at(game, row)
    told = [side_wins(game, row + (word,), side) for word in words]
    return any(told) if len(row) % 2 == side else all(told)


def good_at(game, row):
    """The words behind which the side that played them wins."""
    return [word for word in words_at(game, row) if side_wins(game, row + (word,), len(row) % 2)]


def right_won(hall, games):
    return tuple(at for at, (name, side, begun) in enumerate(hall.boards) if side_wins(games[name], begun, side))


def right_move(hall, games, rows):
    for at in right_won(hall, games):
        name, side, _ = hall.boards[at]
        if len(rows[at]) % 2 == side and side_wins(games[name], rows[at], side):
            return (at, min(good_at(games[name], rows[at])))
    return None


def right_answer(hall, games, board, row):
    game = games[hall.boards[board][0]]
    words = good_at(game, row) or words_at(game, row)
    return min(words) if words else None


def chance_rows(chance, hall, games):
    """Rows for a hall that are all in their games, by chance."""
    found = []
    for name, _, begun in hall.boards:
        found.append(chance.choice([row for row in games[name] if row[:len(begun)] == begun]))
    return tuple(found)


class ToldWon(Case):
    def test_boards(self):
        self.tells((0, 3, 4), told_won(HALL, GAMES))
        self.tells((), told_won(fresh_hall(2, 0), {"g": ((),)}))
        self.tells((0, 1), told_won(fresh_hall(0, 2), {"g": ((),)}))
        self.tells((2,), told_won(fresh_hall(2, 1), {"g": ((), ("a",), ("a", "b"))}))

    def test_just_one_of_two_sides_wins(self):
        chance = random.Random(191)
        for _ in range(100):
            hall = chance_hall(chance, begun=BEGUN)
            games = chance_games(chance, hall)
            self.tells(right_won(hall, games), told_won(hall, games))
            other = Hall(tuple((name, 1 - side, begun) for name, side, begun in hall.boards))
            self.assertEqual(sorted(told_won(hall, games) + told_won(other, games)), list(range(len(hall.boards))))
            self.tells(told_won(hall, games), told_won(hall, games))

    def test_large_games_and_halls(self):
        self.tells((1,), told_won(fresh_hall(1, 1), {"g": chain_of(60)}))
        self.tells((0,), told_won(fresh_hall(1, 1), {"g": chain_of(59)}))
        self.tells((0,), told_won(Hall((("g", 0, row_of(20)), ("g", 1, row_of(20)))), {"g": chain_of(59)}))
        hall = joined(fresh_hall(12, 0), fresh_hall(0, 12))
        self.tells(tuple(range(12)), told_won(hall, {"g": GAME}))

    def test_errors(self):
        for games in NO_GAMES:
            self.raises("NoGames", {}, told_won, HALL, games)
        self.refuses_odd("NoGames", lambda thing: told_won(fresh_hall(1, 0), thing), [{"g": ((),)}])

    def test_arguments_stay(self):
        games = copy.deepcopy(GAMES)
        told_won(HALL, games)
        told_move(HALL, games, tuple(board[2] for board in HALL.boards))
        told_answer(HALL, games, 1, ())
        self.assertTrue(same(games, GAMES))


class ToldMove(Case):
    def test_moves(self):
        begun = tuple(board[2] for board in HALL.boards)
        self.tells((0, "b"), told_move(HALL, GAMES, begun))
        self.tells((4, "c"), told_move(HALL, GAMES, (("b",),) + begun[1:]))
        self.assertIsNone(told_move(HALL, GAMES, (("b",), (), (), (), ("a", "c"), ("a",))))
        self.tells((3, "y"), told_move(HALL, GAMES, (("b",), ("a",), (), ("x",), ("a",), ("a",))))

    def test_boards_that_are_not_won_from_the_first(self):
        # On the board 1 the side of the guest wins now, but it did not at first.
        self.assertIsNone(told_move(fresh_hall(0, 1), {"g": GAME}, (("a",),)))
        self.tells((0, "c"), told_move(Hall((("g", 1, ("a",)),)), {"g": GAME}, (("a",),)))

    def test_boards_that_are_won_no_more(self):
        # Behind a and c the first side, which won at first, has lost.
        self.assertIsNone(told_move(fresh_hall(1, 0), {"g": GAME}, (("a", "c"),)))
        self.tells((0, "a"), told_move(fresh_hall(1, 0), {"g": GAME}, (("a", "b"),)))
        self.tells((1, "b"), told_move(fresh_hall(2, 0), {"g": GAME}, (("a", "c"), ())))

    def test_errors(self):
        begun = tuple(board[2] for board in HALL.boards)
        for games in NO_GAMES:
            self.raises("NoGames", {}, told_move, HALL, games, None)
            self.raises("NoGames", {}, told_move, HALL, games, begun)
        for rows in (
                begun[:5], begun + ((),), list(begun), (["a"],) + begun[1:], ("a",) + begun[1:], (("A",),) + begun[1:],
                begun[:5] + (("b",),), begun[:4] + ((),) + begun[5:], (row_of(61),) + begun[1:], None, ()):
            self.raises("NoRows", {}, told_move, HALL, GAMES, rows)
        # Rows for the hall that are none of their games.
        for rows in ((("c",),) + begun[1:], (("a", "b", "b"),) + begun[1:], begun[:5] + (("a", "a"),),
                     (("x",),) + begun[1:], begun[:2] + (("a",),) + begun[3:]):
            self.raises("NoRows", {}, told_move, HALL, GAMES, rows)
        self.refuses_odd("NoRows", lambda thing: told_move(fresh_hall(1, 0), {"g": GAME}, thing),
                         [((),), (("a",),)])
        self.refuses_odd("NoGames", lambda thing: told_move(fresh_hall(1, 0), thing, ((),)), [{"g": ((),)}])

    def test_by_chance(self):
        chance = random.Random(192)
        told = {True: 0, False: 0}
        for _ in range(300):
            hall = chance_hall(chance, begun=BEGUN)
            games = chance_games(chance, hall)
            rows = chance_rows(chance, hall, games)
            right = right_move(hall, games, rows)
            self.tells(right, told_move(hall, games, rows))
            told[right is None] += 1
        self.assertGreater(min(told.values()), 50)


class ToldAnswer(Case):
    def test_answers(self):
        self.tells("b", told_answer(HALL, GAMES, 1, ()))
        # The second side answers at the board 0: behind a it wins by c.
        self.tells("c", told_answer(HALL, GAMES, 0, ("a",)))
        self.assertIsNone(told_answer(HALL, GAMES, 0, ("b",)))
        # No word is good for the first side: the least one is played.
        self.tells("x", told_answer(HALL, GAMES, 3, ()))
        self.tells("y", told_answer(HALL, GAMES, 2, ("z",)))
        self.assertIsNone(told_answer(HALL, GAMES, 1, ("a", "c")))

    def test_rows_that_do_not_go_on_from_the_board(self):
        # The document asks for a row of the game alone.
        self.tells("b", told_answer(HALL, GAMES, 4, ()))
        self.tells("a", told_answer(HALL, GAMES, 4, ("a", "b")))

    def test_least_good_word(self):
        game = ((), ("a",), ("a", "x"), ("b",), ("c",), ("d",))
        self.tells("b", told_answer(fresh_hall(0, 1), {"g": game}, 0, ()))
        self.tells("x", told_answer(fresh_hall(1, 0), {"g": game}, 0, ("a",)))

    def test_errors(self):
        for games in NO_GAMES:
            self.raises("NoGames", {}, told_answer, HALL, games, None, None)
        for board in (6, -1, 10 ** 59, True, False, None, "0", (0,), [0]):
            self.raises("NoBoard", {}, told_answer, HALL, GAMES, board, None)
            self.raises("NoBoard", {}, told_answer, HALL, GAMES, board, ())
        for row in (None, [], "", "b", ["b"], ("c",), ("A",), (1,), ("b", "a"), row_of(61), {}):
            self.raises("NoRow", {}, told_answer, HALL, GAMES, 0, row)
        # Rows of the game at which the guest is to move.
        for board, row in ((0, ()), (0, ("a", "b")), (1, ("a",)), (4, ("a",)), (2, ("x", "y")), (3, ("z",))):
            self.raises("NoRow", {}, told_answer, HALL, GAMES, board, row)
        # A row of another game.
        self.raises("NoRow", {}, told_answer, HALL, GAMES, 0, ("x",))
        self.refuses_odd("NoBoard", lambda thing: told_answer(fresh_hall(1, 1), {"g": GAME}, thing, None), (0, 1))
        self.refuses_odd("NoRow", lambda thing: told_answer(fresh_hall(1, 0), {"g": GAME}, 0, thing), [("a",)])

    def test_by_chance(self):
        chance = random.Random(193)
        told = {True: 0, False: 0}
        for _ in range(200):
            hall = chance_hall(chance, begun=BEGUN)
            games = chance_games(chance, hall)
            for board, (name, side, _) in enumerate(hall.boards):
                for row in games[name]:
                    if len(row) % 2 == side:
                        self.raises("NoRow", {}, told_answer, hall, games, board, row)
                        continue
                    right = right_answer(hall, games, board, row)
                    self.tells(right, told_answer(hall, games, board, row))
                    told[right is None] += 1
        self.assertGreater(min(told.values()), 50)


class EighthFact(Case):
    def test_the_guest_who_knows_wins_all_of_them(self):
        chance = random.Random(194)
        many = 0
        for at in range(120):
            hall = chance_hall(chance, begun=BEGUN)
            games = chance_games(chance, hall)
            surely = told_won(hall, games)
            many += len(surely)
            for waiting in (0, 0.3, 1):
                masters = chance_masters(games, hall, at, waiting)
                won, _ = led(hall, games, lambda rows, refused: told_move(hall, games, rows), masters)
                self.assertTrue(set(surely) <= set(won))
            won, _ = led(hall, games, lambda rows, refused: told_move(hall, games, rows),
                         lambda board, row: told_answer(hall, games, board, row))
            self.assertEqual(won, surely)
        self.assertGreater(many, 100)

    def closes_won(self, hall, games, board, row):
        """Whether by some words of the guest the board closes won against the master who knows the games."""
        name, side, _ = hall.boards[board]
        if len(row) % 2 == side:
            return any(self.closes_won(hall, games, board, row + (word,)) for word in words_at(games[name], row))
        word = told_answer(hall, games, board, row)
        return word is None or self.closes_won(hall, games, board, row + (word,))

    def test_no_guest_wins_another_one(self):
        chance = random.Random(195)
        for _ in range(120):
            hall = chance_hall(chance, begun=BEGUN)
            games = chance_games(chance, hall)
            found = tuple(at for at, board in enumerate(hall.boards) if self.closes_won(hall, games, at, board[2]))
            self.assertEqual(found, told_won(hall, games))

    def test_guests_who_play_by_chance(self):
        chance = random.Random(196)
        for at in range(60):
            hall = chance_hall(chance, begun=BEGUN)
            games = chance_games(chance, hall)
            won, _ = led(hall, games, chance_guest(hall, games, at),
                         lambda board, row: told_answer(hall, games, board, row))
            self.assertTrue(set(won) <= set(told_won(hall, games)))


def chance_guest(hall, games, seed):
    """A guest who knows the games but plays by chance, and gives the same for the same."""
    def guest(rows, refused):
        chance = random.Random(f"{seed} {rows}")
        moves = [(at, word) for at, (name, side, _) in enumerate(hall.boards) if len(rows[at]) % 2 == side
                 for word in words_at(games[name], rows[at])]
        return chance.choice(moves) if moves and chance.random() < 0.9 else None

    return guest


class Odd(Case):
    def test_objects_are_judged(self):
        for thing in odd_things():
            self.raises("NoGames", {}, told_answer, HALL, thing, thing, thing)
            self.raises("NoGames", {}, told_move, HALL, thing, thing)


if __name__ == "__main__":
    unittest.main()
