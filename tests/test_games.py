"""1.1 and 1.2: words, rows, games."""

import random
import unittest

from tests.helpers import Case, chance_game, many_words
from untoldgames.games import behind, both_games, game_of, is_game, let_words, mover
from untoldgames.halls import Hall

CHAIN = ((), ("a",), ("a", "b"))
# Right rows and right games among the odd things.
ODD_ROWS = ((), ("a",), ("all",))
ODD_GAMES = (((),), ((), ("a",)))


def row_of(many):
    return ("a",) * many


def chain_of(many):
    """The game of all rows of at most so many words a."""
    return tuple(row_of(length) for length in range(many + 1))


def wide_of(many):
    """A game of so many rows, all but () of one word."""
    return ((),) + tuple((word,) for word in many_words(many - 1))


class Mover(Case):
    def test_sides_by_turns(self):
        self.tells(0, mover(()))
        self.tells(1, mover(("a",)))
        self.tells(0, mover(("a", "zz")))
        self.tells(1, mover(("b", "b", "b")))

    def test_words(self):
        self.tells(1, mover(("abcdefghijklmnopqrst",)))
        self.tells(1, mover(("uvwxyz",)))
        for word in ("", "a" * 21, "A", "aB", "a b", " a", "a\n", "`", "{", "a-b", "a1", "\t", b"a", None, 0, ("a",)):
            self.raises("NoRow", {}, mover, (word,))
            self.raises("NoRow", {}, mover, ("a", word))
            self.raises("NoRow", {}, mover, (word, "a"))

    def test_length(self):
        self.tells(1, mover(row_of(59)))
        self.tells(0, mover(row_of(60)))
        self.raises("NoRow", {}, mover, row_of(61))
        self.raises("NoRow", {}, mover, row_of(62))

    def test_odd(self):
        self.raises("NoRow", {}, mover, ["a"])
        self.refuses_odd("NoRow", mover, ODD_ROWS)


class IsGame(Case):
    def test_games(self):
        for game in (((),), CHAIN, ((), ("a",), ("a", "a"), ("aa",), ("b",)), ((), ("a" * 20,))):
            self.assertIs(is_game(game), True, game)

    def test_no_games(self):
        for thing in (
                (), (("a",),), ((), ("a", "b")), ((), ("a",), ("a", "b", "c")), ((), ()), (("a",), ()),
                ((), ("b",), ("a",)), ((), ("a",), ("a",)), ((), ("aa",), ("a",)), ((), ("a" * 21,)),
                list(CHAIN), ((), ["a"]), ((), "a"), ("", ("a",)), ((), ("a",), None), ((), (("a",),)),
                (("a",), ("a", "b")), ((), ("b", "a"), ("b",)), ((), ("a",), ("b", "a"))):
            self.assertIs(is_game(thing), False, thing)

    def test_bounds(self):
        self.assertIs(is_game(wide_of(599)), True)
        self.assertIs(is_game(wide_of(600)), True)
        self.assertIs(is_game(wide_of(601)), False)
        self.assertIs(is_game(chain_of(60)), True)
        self.assertIs(is_game(chain_of(61)), False)

    def test_odd(self):
        self.judges_odd(is_game, ODD_GAMES)

    def test_by_chance(self):
        chance = random.Random(1)
        for _ in range(200):
            game = chance_game(chance)
            self.assertIs(is_game(game), True)
            less = list(game)
            less.remove(chance.choice(game))
            closed = () in less and all(row[:-1] in less for row in less)
            self.assertIs(is_game(tuple(less)), closed)


class LetWords(Case):
    def test_example(self):
        self.tells(("b",), let_words(((), ("a",), ("a", "b")), ("a",)))

    def test_words(self):
        game = ((), ("a",), ("a", "aa"), ("a", "b"), ("aa",), ("b",), ("b", "a"), ("b", "a", "c"))
        self.tells(("a", "aa", "b"), let_words(game, ()))
        self.tells(("aa", "b"), let_words(game, ("a",)))
        self.tells((), let_words(game, ("aa",)))
        self.tells(("c",), let_words(game, ("b", "a")))
        self.tells((), let_words(game, ("b", "a", "c")))
        self.tells((), let_words(((),), ()))
        self.tells((), let_words(chain_of(60), row_of(60)))
        self.tells(("a",), let_words(chain_of(60), row_of(59)))

    def test_errors(self):
        self.refuses_odd("NoGame", lambda thing: let_words(thing, ()), ODD_GAMES)
        self.refuses_odd("NoRow", lambda thing: let_words(CHAIN, thing), [(), ("a",)])
        self.raises("NoRow", {}, let_words, CHAIN, ("b",))
        self.raises("NoRow", {}, let_words, CHAIN, ("a", "b", "c"))
        self.raises("NoRow", {}, let_words, CHAIN, ["a"])
        self.raises("NoGame", {}, let_words, list(CHAIN), None)


class GameOf(Case):
    def test_games(self):
        self.tells(((),), game_of([]))
        self.tells(((),), game_of(()))
        self.tells(((),), game_of([()]))
        self.tells(CHAIN, game_of([("a", "b")]))
        self.tells(CHAIN, game_of((("a", "b"), ("a",), ("a", "b"))))
        self.tells(((), ("a",), ("b",), ("b", "a")), game_of([("b", "a"), ("a",)]))
        self.tells(chain_of(60), game_of([row_of(60)]))

    def test_is_the_least_game(self):
        chance = random.Random(2)
        for _ in range(100):
            rows = [chance.choice(chance_game(chance)) for _ in range(chance.randrange(5))]
            given = list(rows)
            game = game_of(rows)
            self.assertEqual(rows, given)
            self.assertTrue(is_game(game))
            self.assertTrue(set(rows) <= set(game))
            for row in game:
                self.assertTrue(row == () or any(other[:len(row)] == row for other in rows))

    def test_how_many_rows_are_passed(self):
        self.tells(((), ("a",)), game_of([("a",)] * 600))
        self.raises("NoRows", {}, game_of, [("a",)] * 601)
        self.raises("NoRows", {}, game_of, (("a",),) * 601)
        self.raises("NoRows", {}, game_of, [()] * 601)

    def test_how_many_rows_come(self):
        words = many_words(600)
        self.assertEqual(game_of([(word,) for word in words[:599]]), wide_of(600))
        self.raises("TooMany", {"most": 600}, game_of, [(word,) for word in words])
        long_rows = [(word,) + row_of(59) for word in words[:10]]
        self.assertEqual(len(game_of(long_rows[:9])), 541)
        self.assertEqual(len(game_of(long_rows[:9] + [long_rows[9][:59]])), 600)
        self.raises("TooMany", {"most": 600}, game_of, long_rows)
        self.raises("NoRows", {}, game_of, [(word,) for word in words] + [None])
        self.raises("NoRows", {}, game_of, long_rows[:-1] + [row_of(61)])

    def test_errors(self):
        rows = [(), [], [()], [(), ("a",)], ((),), ((), ()), ((), ("a",)), (("a",), ()), (("a",),), (("all",), ())]
        self.refuses_odd("NoRows", game_of, rows)
        self.refuses_odd("NoRows", lambda thing: game_of([(), thing]), ODD_ROWS)
        self.raises("NoRows", {}, game_of, [("a",), ["a"]])
        self.raises("NoRows", {}, game_of, {("a",): 1})


class Behind(Case):
    def test_games(self):
        game = ((), ("a",), ("a", "b"), ("a", "b", "a"), ("a", "c"), ("b",))
        self.tells(game, behind(game, ()))
        self.tells(((), ("b",), ("b", "a"), ("c",)), behind(game, ("a",)))
        self.tells(((), ("a",)), behind(game, ("a", "b")))
        self.tells(((),), behind(game, ("b",)))
        self.tells(chain_of(1), behind(chain_of(60), row_of(59)))

    def test_by_chance(self):
        chance = random.Random(3)
        for _ in range(100):
            game = chance_game(chance)
            row = chance.choice(game)
            left = behind(game, row)
            self.assertTrue(is_game(left))
            self.assertEqual([row + more for more in left], [one for one in game if one[:len(row)] == row])

    def test_errors(self):
        self.refuses_odd("NoGame", lambda thing: behind(thing, ()), ODD_GAMES)
        self.refuses_odd("NoRow", lambda thing: behind(CHAIN, thing), [(), ("a",)])
        self.raises("NoRow", {}, behind, CHAIN, ("b",))
        self.raises("NoGame", {}, behind, (), ("b",))


class BothGames(Case):
    def test_games(self):
        self.tells(((), ("a",)), both_games(CHAIN, ((), ("a",), ("a", "c"))))
        self.tells(((),), both_games(CHAIN, ((),)))
        self.tells(((),), both_games(((),), CHAIN))
        self.tells(CHAIN, both_games(CHAIN, CHAIN))

    def test_by_chance(self):
        chance = random.Random(4)
        for _ in range(100):
            one, other = chance_game(chance), chance_game(chance)
            self.assertEqual(both_games(one, other), tuple(sorted(set(one) & set(other))))

    def test_errors(self):
        self.refuses_odd("NoGame", lambda thing: both_games(thing, CHAIN), ODD_GAMES)
        self.refuses_odd("NoGame", lambda thing: both_games(CHAIN, thing), ODD_GAMES)
        self.raises("NoGame", {}, both_games, CHAIN, Hall((("g", 0, ()),)))


if __name__ == "__main__":
    unittest.main()
