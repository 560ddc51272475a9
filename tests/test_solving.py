"""2.1 and 2.2: who wins told games, and plans."""

import random
import unittest

from tests.helpers import Case, chance_game, odd_things
from tests.test_games import CHAIN, ODD_GAMES, chain_of, row_of, wide_of
from untoldgames.games import let_words, mover
from untoldgames.solving import good_words, moves_left, plan, plan_fault, winner

# The second side wins by "b", but loses by "c", behind which only "a" is let.
FORK = ((), ("a",), ("a", "b"), ("a", "c"), ("a", "c", "a"))


def longer_rows(game, row):
    return [row + (word,) for word in let_words(game, row)]


def wins(game, row):
    """Whether the side that is to move wins, straight by what the document says."""
    return any(not wins(game, longer) for longer in longer_rows(game, row))


def left(game, row):
    """How many words are left, straight by what the document says."""
    rows = longer_rows(game, row)
    if not rows:
        return 0
    if wins(game, row):
        return 1 + min(left(game, longer) for longer in rows if not wins(game, longer))
    return 1 + max(left(game, longer) for longer in rows)


def coming(game, side, thing):
    """All rows that come by a plan at which its side is to move, straight by what the document says."""
    found = []

    def go(row):
        if mover(row) == side:
            found.append(row)
            if row in thing:
                go(row + (thing[row],))
        else:
            for longer in longer_rows(game, row):
                go(longer)

    go(())
    return found


class Winner(Case):
    def test_example(self):
        self.tells(1, winner(((), ("a",), ("a", "b")), ()))

    def test_games(self):
        self.tells(1, winner(((),), ()))
        self.tells(0, winner(((), ("a",)), ()))
        self.tells(0, winner(((), ("a",)), ("a",)))
        self.tells(1, winner(CHAIN, ("a",)))
        self.tells(1, winner(CHAIN, ("a", "b")))
        self.tells(1, winner(FORK, ()))
        self.tells(1, winner(FORK, ("a",)))
        self.tells(0, winner(FORK, ("a", "c")))
        self.tells(0, winner(((), ("a",), ("a", "b"), ("c",)), ()))
        self.tells(1, winner(chain_of(60), ()))
        self.tells(0, winner(chain_of(59), ()))
        self.tells(0, winner(wide_of(600), ()))

    def test_errors(self):
        self.refuses_odd("NoGame", lambda thing: winner(thing, None), ODD_GAMES)
        self.refuses_odd("NoRow", lambda thing: winner(CHAIN, thing), [(), ("a",)])
        self.raises("NoRow", {}, winner, CHAIN, ("b",))


class GoodWords(Case):
    def test_games(self):
        self.tells((), good_words(((),), ()))
        self.tells(("a",), good_words(((), ("a",)), ()))
        self.tells((), good_words(CHAIN, ()))
        self.tells(("b",), good_words(FORK, ("a",)))
        self.tells(("a",), good_words(FORK, ("a", "c")))
        self.tells(("b", "c"), good_words(((), ("a",), ("a", "b"), ("b",), ("c",)), ()))
        self.tells(tuple(row[0] for row in wide_of(600)[1:]), good_words(wide_of(600), ()))

    def test_errors(self):
        self.refuses_odd("NoGame", lambda thing: good_words(thing, None), ODD_GAMES)
        self.refuses_odd("NoRow", lambda thing: good_words(CHAIN, thing), [(), ("a",)])
        self.raises("NoRow", {}, good_words, CHAIN, ("b",))


class MovesLeft(Case):
    def test_games(self):
        self.tells(0, moves_left(((),), ()))
        self.tells(1, moves_left(((), ("a",)), ()))
        self.tells(2, moves_left(CHAIN, ()))
        self.tells(0, moves_left(CHAIN, ("a", "b")))
        self.tells(2, moves_left(FORK, ()))
        self.tells(60, moves_left(chain_of(60), ()))
        self.tells(1, moves_left(chain_of(60), row_of(59)))

    def test_the_winner_hurries_and_the_loser_delays(self):
        game = ((), ("a",), ("a", "a"), ("a", "a", "a"), ("b",))
        self.tells(1, moves_left(game, ()))
        game = ((), ("a",), ("a", "a"), ("b",), ("b", "a"), ("b", "a", "a"), ("b", "a", "a", "a"))
        self.tells(4, moves_left(game, ()))
        self.tells(3, moves_left(game, ("b",)))

    def test_errors(self):
        self.refuses_odd("NoGame", lambda thing: moves_left(thing, None), ODD_GAMES)
        self.refuses_odd("NoRow", lambda thing: moves_left(CHAIN, thing), [(), ("a",)])
        self.raises("NoRow", {}, moves_left, CHAIN, ("b",))

    def test_all_by_chance(self):
        chance = random.Random(5)
        for _ in range(150):
            game = chance_game(chance, "abc", 4, 0.45)
            for row in game:
                side = mover(row)
                self.tells(side if wins(game, row) else 1 - side, winner(game, row))
                self.tells(left(game, row), moves_left(game, row))
                good = [longer[-1] for longer in longer_rows(game, row) if not wins(game, longer)]
                self.tells(tuple(good), good_words(game, row))


class Plan(Case):
    def test_games(self):
        self.assertIsNone(plan(((),), 0))
        self.tells({}, plan(((),), 1))
        self.tells({(): "a"}, plan(((), ("a",)), 0))
        self.assertIsNone(plan(((), ("a",)), 1))
        self.assertIsNone(plan(CHAIN, 0))
        self.tells({("a",): "b"}, plan(CHAIN, 1))
        self.tells({("a",): "b"}, plan(FORK, 1))
        self.tells({row_of(at): "a" for at in range(1, 60, 2)}, plan(chain_of(60), 1))

    def test_by_chance(self):
        chance = random.Random(6)
        for _ in range(200):
            game = chance_game(chance, "abc", 4, 0.5)
            for side in (0, 1):
                told = plan(game, side)
                if wins(game, ()) != (side == 0):
                    self.assertIsNone(told)
                    continue
                self.assertIsNone(plan_fault(game, side, told))
                self.assertEqual(sorted(told), sorted(coming(game, side, told)))
                self.assertEqual(told, plan(game, side))
                self.assertIsNot(told, plan(game, side))

    def test_errors(self):
        self.refuses_odd("NoGame", lambda thing: plan(thing, None), ODD_GAMES)
        self.refuses_odd("NoSide", lambda thing: plan(CHAIN, thing), [0, 1])


class PlanFault(Case):
    def test_form(self):
        form = ("form",)
        for thing in (
                None, [], (), [(("a",), "b")], {(): "a"}, {("a",): "c"}, {("a",): None}, {("a",): ["b"]},
                {("b",): "b"}, {"a": "b"}, {("a", "b"): "a"}, {("a",): "b", (): "a"}, {("a",): "b", 1: "b"},
                {("a",): ("b",)}, {None: "b"}, {("a",): ""}, {("a",): 1}, {("a", "a"): "b"}):
            self.tells(form, plan_fault(CHAIN, 1, thing))
        self.tells(form, plan_fault(CHAIN, 0, {("a",): "b"}))
        self.tells(form, plan_fault(chain_of(60), 0, {row_of(60): "a"}))
        self.tells(form, plan_fault(chain_of(2), 0, {row_of(2): "a"}))

    def test_odd(self):
        for thing in odd_things():
            # The empty dict is of the right form, and lacks a row.
            expected = ("lacks", ("a",)) if isinstance(thing, dict) and not thing else ("form",)
            self.tells(expected, plan_fault(CHAIN, 1, thing))

    def test_lacks(self):
        self.tells(("lacks", ()), plan_fault(CHAIN, 0, {}))
        self.tells(("lacks", ("a",)), plan_fault(CHAIN, 1, {}))
        self.tells(("lacks", ("a", "b")), plan_fault(CHAIN, 0, {(): "a"}))
        self.tells(("lacks", ()), plan_fault(((),), 0, {}))
        self.assertIsNone(plan_fault(((),), 1, {}))
        self.assertIsNone(plan_fault(CHAIN, 1, {("a",): "b"}))

    def test_the_least_row_is_told(self):
        game = ((), ("a",), ("a", "a"), ("b",), ("b", "a"), ("c",), ("c", "a"))
        self.tells(("lacks", ("a",)), plan_fault(game, 1, {}))
        self.tells(("lacks", ("b",)), plan_fault(game, 1, {("a",): "a", ("c",): "a"}))
        self.tells(("lacks", ("c",)), plan_fault(game, 1, {("a",): "a", ("b",): "a"}))

    def test_rows_that_do_not_come_are_let(self):
        game = ((), ("a",), ("b",), ("b", "a"), ("b", "a", "a"))
        self.assertIsNone(plan_fault(game, 0, {(): "b", ("b", "a"): "a"}))
        self.assertIsNone(plan_fault(game, 0, {(): "a", ("b", "a"): "a"}))
        self.tells(("lacks", ("b", "a")), plan_fault(game, 0, {(): "b"}))

    def test_by_chance(self):
        chance = random.Random(7)
        for _ in range(300):
            game = chance_game(chance, "ab", 4, 0.6)
            side = chance.randrange(2)
            thing = {}
            for row in game:
                if mover(row) == side and let_words(game, row) and chance.random() < 0.7:
                    thing[row] = chance.choice(let_words(game, row))
            given = dict(thing)
            lacking = [row for row in coming(game, side, thing) if row not in thing]
            self.assertEqual(plan_fault(game, side, thing), ("lacks", min(lacking)) if lacking else None)
            self.assertEqual(thing, given)
            if not lacking:
                self.assertEqual(winner(game, ()), side)

    def test_errors(self):
        self.refuses_odd("NoGame", lambda thing: plan_fault(thing, None, None), ODD_GAMES)
        self.refuses_odd("NoSide", lambda thing: plan_fault(CHAIN, thing, None), [0, 1])


if __name__ == "__main__":
    unittest.main()
