"""6.1: sittings."""

import random
import unittest

from tests.helpers import Case, chance_game, chance_hall, fresh_hall, odd_things, same
from tests.test_games import chain_of, row_of
from untoldgames.halls import Hall, are_games, joined, least_games
from untoldgames.sittings import Sitting

GAME = ((), ("a",), ("a", "b"), ("a", "b", "c"), ("b",), ("b", "b"))
GAMES = {"g": GAME, "h": ((), ("x",))}
HALL = Hall((("g", 0, ()), ("g", 1, ()), ("h", 1, ()), ("g", 1, ("a",))))


class Oops(Exception):
    """An error of an action's own."""


def seen(sitting):
    """All that a sitting tells."""
    return (sitting.rows(), sitting.turns(), sitting.refused(), sitting.won(), sitting.log(), sitting.depth())


def drawn(sitting):
    """All that a copy of a sitting tells, taken back step by step."""
    other = sitting.copy()
    told = [seen(other)]
    while other.depth() > 0:
        other.back()
        told.append(seen(other))
    return told


class Model:
    """A sitting straight by what the document says, which works all out from its log."""

    def __init__(self, hall, games):
        self.hall, self.games, self.done = hall, games, []

    def rows(self):
        rows = [board[2] for board in self.hall.boards]
        for item in self.done:
            if item[0] == "answered" or item[3]:
                rows[item[1]] += (item[2],)
        return tuple(rows)

    def turns(self):
        return tuple(len(row) % 2 == board[1] for row, board in zip(self.rows(), self.hall.boards))

    def is_let(self, board, word):
        return self.rows()[board] + (word,) in self.games[self.hall.boards[board][0]]

    def refused(self):
        found = set()
        for at, item in enumerate(self.done):
            if item[0] == "said" and not item[3]:
                ahead = Model(self.hall, self.games)
                ahead.done = self.done[:at]
                found.add((self.hall.boards[item[1]][0], ahead.rows()[item[1]], item[2]))
        return sorted(found)

    def seen(self):
        won = tuple(board for board, turn in enumerate(self.turns()) if not turn)
        return (self.rows(), self.turns(), self.refused(), won, list(self.done), len(self.done))


class Start(Case):
    def test_start(self):
        sitting = Sitting(HALL, GAMES)
        self.tells(((), (), (), ("a",)), sitting.rows())
        self.tells((True, False, False, True), sitting.turns())
        self.tells((1, 2), sitting.won())
        self.tells([], sitting.refused())
        self.tells([], sitting.log())
        self.tells(0, sitting.depth())
        self.raises("NothingDone", {}, sitting.back)

    def test_large_halls(self):
        sitting = Sitting(joined(fresh_hall(12, 0), fresh_hall(0, 12)), {"g": GAME})
        self.tells(tuple(range(12, 24)), sitting.won())
        self.tells(True, sitting.say(0, "a"))
        sitting.answer(23, "b")
        self.tells((0,) + tuple(range(12, 23)), sitting.won())

    def test_errors(self):
        self.refuses_odd("NoGames", lambda thing: Sitting(fresh_hall(1, 0), thing), [{"g": ((),)}])
        for games in (None, {}, {"g": GAME}, {**GAMES, "i": ((),)}, {"g": ((),), "h": ((),)}, {"g": GAME, "h": ()}):
            self.raises("NoGames", {}, Sitting, HALL, games)

    def test_games_are_copied(self):
        games = dict(GAMES)
        sitting = Sitting(HALL, games)
        self.assertEqual(games, GAMES)
        games["g"] = ((),)
        games["h"] = ((),)
        self.tells(True, sitting.say(0, "a"))
        copy = sitting.copy()
        sitting.answer(2, "x")
        copy.answer(2, "x")

    def test_equal_to_nothing_else(self):
        sitting = Sitting(HALL, GAMES)
        for thing in odd_things():
            self.assertFalse(sitting == thing)


class Say(Case):
    def test_let_and_refused(self):
        sitting = Sitting(HALL, GAMES)
        self.tells(False, sitting.say(0, "c"))
        self.tells(((), (), (), ("a",)), sitting.rows())
        self.tells((True, False, False, True), sitting.turns())
        self.tells([("g", (), "c")], sitting.refused())
        self.tells([("said", 0, "c", False)], sitting.log())
        self.tells(1, sitting.depth())
        self.tells(True, sitting.say(0, "a"))
        self.tells((("a",), (), (), ("a",)), sitting.rows())
        self.tells((False, False, False, True), sitting.turns())
        self.tells((0, 1, 2), sitting.won())
        self.tells([("said", 0, "c", False), ("said", 0, "a", True)], sitting.log())
        self.tells([("g", (), "c")], sitting.refused())
        self.tells(2, sitting.depth())

    def test_refused_again(self):
        sitting = Sitting(HALL, GAMES)
        self.tells(False, sitting.say(3, "c"))
        self.tells(False, sitting.say(3, "a"))
        self.tells(False, sitting.say(3, "c"))
        self.tells([("g", ("a",), "a"), ("g", ("a",), "c")], sitting.refused())
        self.tells(3, sitting.depth())
        sitting.back()
        self.tells([("g", ("a",), "a"), ("g", ("a",), "c")], sitting.refused())
        sitting.back()
        self.tells([("g", ("a",), "c")], sitting.refused())
        sitting.back()
        self.tells([], sitting.refused())

    def test_refused_ascends(self):
        hall = Hall((("h", 0, ()), ("g", 0, ()), ("g", 1, ("a",))))
        sitting = Sitting(hall, GAMES)
        for board, word in ((0, "z"), (0, "y"), (2, "zz"), (1, "z"), (2, "z"), (1, "c")):
            self.tells(False, sitting.say(board, word))
        self.tells([("g", (), "c"), ("g", (), "z"), ("g", ("a",), "z"), ("g", ("a",), "zz"), ("h", (), "y"),
                    ("h", (), "z")], sitting.refused())

    def test_refused_on_boards_of_one_name(self):
        sitting = Sitting(fresh_hall(2, 0), {"g": GAME})
        self.tells(False, sitting.say(0, "c"))
        self.tells(False, sitting.say(1, "c"))
        self.tells([("g", (), "c")], sitting.refused())
        self.tells([("said", 0, "c", False), ("said", 1, "c", False)], sitting.log())

    def test_rows_of_sixty_words(self):
        sitting = Sitting(Hall((("g", 0, row_of(20)),)), {"g": chain_of(60)})
        for at in range(20):
            self.tells(True, sitting.say(0, "a"))
            sitting.answer(0, "a")
        self.tells((row_of(60),), sitting.rows())
        self.tells(False, sitting.say(0, "a"))
        self.tells((row_of(60),), sitting.rows())

    def test_errors(self):
        sitting = Sitting(HALL, GAMES)
        sitting.say(3, "b")
        sitting.say(0, "q")
        before, steps = seen(sitting), drawn(sitting)
        for board in (4, -1, 10 ** 59, True, False, None, "0", (0,), [0]):
            self.raises("NoBoard", {}, sitting.say, board, None)
            self.raises("NoBoard", {}, sitting.answer, board, None)
        for word in ("", "A", "a" * 21, "a b", b"a", None, 0, ("a",), ["a"], {"a": 1}):
            self.raises("NoWord", {}, sitting.say, 0, word)
            self.raises("NoWord", {}, sitting.answer, 1, word)
            # The word is looked at ahead of the turn.
            self.raises("NoWord", {}, sitting.say, 1, word)
            self.raises("NoWord", {}, sitting.answer, 0, word)
        for board in (1, 2, 3):
            self.raises("NotTurn", {}, sitting.say, board, "a")
        self.raises("NotTurn", {}, sitting.answer, 0, "zzz")
        self.raises("NotLet", {}, sitting.answer, 1, "c")
        self.raises("NotLet", {}, sitting.answer, 2, "a")
        self.raises("NotLet", {}, sitting.answer, 1, "a" * 20)
        self.assertEqual(seen(sitting), before)
        self.assertEqual(drawn(sitting), steps)

    def test_odd(self):
        sitting = Sitting(HALL, GAMES)
        self.refuses_odd("NoBoard", lambda thing: sitting.say(thing, None), (0, 1, 2))
        self.refuses_odd("NoBoard", lambda thing: sitting.answer(thing, None), (0, 1, 2))
        words = ("a", "b", "g", "ab", "all")
        self.refuses_odd("NoWord", lambda thing: sitting.say(0, thing), words)
        self.refuses_odd("NoWord", lambda thing: sitting.answer(1, thing), words)
        self.assertEqual(seen(sitting), seen(Sitting(HALL, GAMES)))

    def test_words_of_twenty_letters(self):
        sitting = Sitting(fresh_hall(1, 0), {"g": ((), ("z" * 20,))})
        self.tells(False, sitting.say(0, "y" * 20))
        self.tells(True, sitting.say(0, "z" * 20))


class Answer(Case):
    def test_answers(self):
        sitting = Sitting(HALL, GAMES)
        self.assertIsNone(sitting.answer(1, "b"))
        self.tells(((), ("b",), (), ("a",)), sitting.rows())
        self.tells((True, True, False, True), sitting.turns())
        self.tells((2,), sitting.won())
        self.tells([("answered", 1, "b")], sitting.log())
        self.tells(1, sitting.depth())
        self.assertIsNone(sitting.answer(2, "x"))
        self.tells((), sitting.won())
        self.tells([("answered", 1, "b"), ("answered", 2, "x")], sitting.log())
        self.tells([], sitting.refused())


class Back(Case):
    def test_back(self):
        sitting = Sitting(HALL, GAMES)
        steps = [seen(sitting)]
        for action in (
                lambda: sitting.say(0, "c"), lambda: sitting.say(0, "a"), lambda: sitting.answer(0, "b"),
                lambda: sitting.answer(1, "b"), lambda: sitting.say(0, "x"), lambda: sitting.say(3, "b")):
            action()
            steps.append(seen(sitting))
        for step in steps[-2::-1]:
            self.assertIsNone(sitting.back())
            self.assertEqual(seen(sitting), step)
        self.raises("NothingDone", {}, sitting.back)
        self.assertEqual(seen(sitting), steps[0])

    def test_another_way_behind_back(self):
        sitting = Sitting(HALL, GAMES)
        sitting.say(0, "a")
        sitting.back()
        sitting.say(0, "b")
        self.tells([("said", 0, "b", True)], sitting.log())
        self.tells((("b",), (), (), ("a",)), sitting.rows())

    def test_begun_rows_stay(self):
        sitting = Sitting(HALL, GAMES)
        sitting.say(3, "b")
        self.tells(("a", "b"), sitting.rows()[3])
        sitting.back()
        self.tells(("a",), sitting.rows()[3])
        self.raises("NothingDone", {}, sitting.back)


class Copies(Case):
    def test_copies_go_on_apart(self):
        sitting = Sitting(HALL, GAMES)
        sitting.say(0, "c")
        sitting.answer(1, "b")
        other = sitting.copy()
        self.assertIs(type(other), Sitting)
        before = seen(sitting)
        self.assertEqual(seen(other), before)
        other.say(0, "d")
        other.say(0, "a")
        other.answer(0, "b")
        self.assertEqual(seen(sitting), before)
        after = seen(other)
        sitting.back()
        sitting.back()
        sitting.say(3, "b")
        self.assertEqual(seen(other), after)
        for _ in range(5):
            other.back()
        self.raises("NothingDone", {}, other.back)
        self.assertEqual(seen(other), seen(Sitting(HALL, GAMES)))
        self.tells(1, sitting.depth())
        self.assertIsNot(sitting.copy(), sitting)

    def test_what_is_returned_is_new(self):
        sitting = Sitting(HALL, GAMES)
        sitting.say(0, "c")
        sitting.say(0, "a")
        before = seen(sitting)
        sitting.log().append("x")
        sitting.log().clear()
        sitting.refused().clear()
        self.assertEqual(seen(sitting), before)
        self.assertIsNot(sitting.log(), sitting.log())


class Trying(Case):
    def setUp(self):
        self.sitting = Sitting(HALL, GAMES)
        self.sitting.say(0, "c")
        self.sitting.answer(1, "b")
        self.sitting.say(3, "b")
        self.before = seen(self.sitting)
        self.steps = drawn(self.sitting)

    def stays(self):
        self.assertEqual(seen(self.sitting), self.before)
        self.assertEqual(drawn(self.sitting), self.steps)

    def test_action_gets_the_sitting(self):
        self.assertIs(self.sitting.trying(lambda passed: passed), self.sitting)
        self.assertIsNone(self.sitting.trying(lambda passed: None))
        self.stays()

    def test_all_is_put_back(self):
        def action(sitting):
            sitting.say(0, "x")
            sitting.say(0, "a")
            sitting.answer(0, "b")
            return seen(sitting)

        told = self.sitting.trying(action)
        self.assertEqual(told[5], 6)
        self.assertEqual(told[0][0], ("a", "b"))
        self.stays()

    def test_what_was_taken_back_is_put_back(self):
        def action(sitting):
            while sitting.depth() > 0:
                sitting.back()
            sitting.say(0, "b")
            return sitting.log()

        self.tells([("said", 0, "b", True)], self.sitting.trying(action))
        self.stays()

    def test_errors_go_on(self):
        for error in (Oops("x"), KeyError("x"), KeyboardInterrupt(), SystemExit(3)):
            def action(sitting):
                sitting.back()
                sitting.say(0, "a")
                raise error

            with self.assertRaises(type(error)) as caught:
                self.sitting.trying(action)
            self.assertIs(caught.exception, error)
            self.stays()
        self.raises("NoBoard", {}, self.sitting.trying, lambda sitting: sitting.say(4, "a"))
        self.raises("NotTurn", {}, self.sitting.trying, lambda sitting: [sitting.say(0, "a"), sitting.say(0, "b")])
        self.stays()

    def test_trials_within_trials(self):
        def inner(sitting):
            sitting.answer(0, "b")
            sitting.back()
            sitting.back()
            sitting.back()
            return seen(sitting)

        def outer(sitting):
            sitting.say(0, "a")
            middle, steps = seen(sitting), drawn(sitting)
            told = sitting.trying(inner)
            self.assertEqual(told[5], 2)
            self.assertEqual(seen(sitting), middle)
            self.assertEqual(drawn(sitting), steps)
            with self.assertRaises(Oops):
                sitting.trying(fails)
            self.assertEqual(drawn(sitting), steps)
            sitting.back()
            sitting.back()
            return sitting.depth()

        def fails(sitting):
            sitting.answer(0, "b")
            raise Oops("x")

        self.tells(2, self.sitting.trying(outer))
        self.stays()

    def test_copies_made_in_trials_go_on(self):
        def action(sitting):
            sitting.say(0, "a")
            return sitting.copy()

        other = self.sitting.trying(action)
        self.stays()
        self.tells(4, other.depth())
        other.answer(0, "b")
        self.tells(("a", "b"), other.rows()[0])
        for _ in range(5):
            other.back()
        self.raises("NothingDone", {}, other.back)
        self.stays()

    def test_it_goes_on_behind_a_trial(self):
        self.sitting.trying(lambda sitting: sitting.say(0, "a"))
        self.tells(True, self.sitting.say(0, "b"))
        self.tells(4, self.sitting.depth())
        self.sitting.back()
        self.stays()


class ByChance(Case):
    def test_like_the_model(self):
        chance = random.Random(41)
        for _ in range(60):
            hall = chance_hall(chance, 5)
            games = {name: chance_game(chance, "ab", 6, 0.75) for name in hall.names}
            if not are_games(hall, games):
                games = least_games(hall)
            self.play(chance, hall, games, 30)

    def play(self, chance, hall, games, many):
        model, sitting = Model(hall, games), Sitting(hall, games)
        for _ in range(many):
            self.step(chance, model, sitting)
            self.assertTrue(same(model.seen(), seen(sitting)), (model.seen(), seen(sitting)))
            if chance.random() < 0.1:
                sitting = sitting.copy()

    def step(self, chance, model, sitting):
        board, word = chance.randrange(len(model.hall.boards)), chance.choice("abbc")
        turn, is_let = model.turns()[board], model.is_let(board, word)
        kind = chance.choice(("say", "answer", "either", "either", "back"))
        if kind == "back":
            if model.done:
                sitting.back()
                model.done.pop()
            else:
                self.raises("NothingDone", {}, sitting.back)
        elif turn and kind != "answer":
            self.tells(is_let, sitting.say(board, word))
            model.done.append(("said", board, word, is_let))
        elif kind == "say" or turn:
            self.raises("NotTurn", {}, sitting.answer if turn else sitting.say, board, word)
        elif is_let:
            self.assertIsNone(sitting.answer(board, word))
            model.done.append(("answered", board, word))
        else:
            self.raises("NotLet", {}, sitting.answer, board, word)


if __name__ == "__main__":
    unittest.main()
