"""7.1 and 7.2: logs, their faults, and the games that are heard by them."""

import copy
import random
import unittest

from tests.helpers import Case, chance_games, chance_hall, fresh_hall, many_words, odd_things, same, words_at
from tests.test_games import chain_of, row_of
from untoldgames.halls import Hall, are_games, joined, least_games
from untoldgames.logs import heard_games, log_fault, log_rows
from untoldgames.sittings import Sitting

GAME = ((), ("a",), ("a", "b"), ("a", "b", "c"), ("b",), ("b", "b"))
GAMES = {"g": GAME, "h": ((), ("x",))}
# Boards 0 and 3 are the guest's to move on, boards 1 and 2 the masters'.
HALL = Hall((("g", 0, ()), ("g", 1, ()), ("h", 1, ()), ("g", 1, ("a",))))
LOG = (
    ("said", 0, "c", False), ("said", 0, "a", True), ("answered", 1, "b"), ("said", 1, "x", False),
    ("said", 1, "b", True), ("answered", 2, "x"), ("said", 3, "b", True), ("answered", 0, "b"),
    ("answered", 3, "c"))
ONE = fresh_hall(1, 1)
# Things that are no logs of ONE, and no items of them.
NO_ITEMS = (
    None, (), ("said",), "said", ["said", 0, "a", True], ["answered", 1, "a"], ("said", 0, "a"), ("answered", 1),
    ("said", 0, "a", True, True), ("answered", 1, "a", True), ("answered", 1, "a", None), ("said", 0, "a", 1),
    ("said", 0, "a", 0), ("said", 0, "a", None), ("said", 0, "a", "yes"), ("Said", 0, "a", True),
    ("answered ", 1, "a"), ("answers", 1, "a"), (b"said", 0, "a", True), (None, 1, "a"), (0, 0, "a", True),
    ("said", 2, "a", True), ("said", -1, "a", True), ("said", True, "a", True), ("said", False, "a", True),
    ("answered", True, "a"), ("said", None, "a", True), ("said", "0", "a", True), ("said", (0,), "a", True),
    ("said", 10 ** 59, "a", True), ("said", 0, "", True), ("said", 0, "A", True), ("said", 0, "a" * 21, True),
    ("said", 0, "a b", False), ("said", 0, b"a", True), ("said", 0, None, True), ("said", 0, ("a",), True),
    ("said", 0, ["a"], True), ("answered", 1, ""), ("answered", 1, None), ("answered", 2, "a"),
    ("said", 1, "a", True), ("said", 1, "a", False), ("answered", 0, "a"), {"said": 0}, {}, 0, True, (("said",),),
    ([], 1, "a"), ({}, 0, "a", True), ("said", {}, "a", True), ("said", 0, {}, True), ("said", 0, "a", []))


def long_log(words):
    """A log of ONE in which the board 0 is played to so many words."""
    return [("said", 0, "a", True) if at % 2 == 0 else ("answered", 0, "a") for at in range(words)]


def wide_log(hall, words):
    """A log by which each board of a hall gets so many words, its own first and then others."""
    found = []
    firsts = many_words(len(hall.boards))
    for board, many in enumerate(words):
        for at in range(many):
            word = firsts[board] if at == 0 else "z"
            said = at % 2 == hall.boards[board][1]
            found.append(("said", board, word, True) if said else ("answered", board, word))
    return found


def chance_log(chance, hall, many, letters="ab"):
    """A log by chance whose flags are by chance, too."""
    rows = [board[2] for board in hall.boards]
    found = []
    for _ in range(many):
        board, word = chance.randrange(len(rows)), chance.choice(letters)
        if len(rows[board]) % 2 != hall.boards[board][1]:
            found.append(("answered", board, word))
        else:
            found.append(("said", board, word, chance.random() < 0.6))
        if found[-1][-1] is not False:
            rows[board] += (word,)
    return found


def tried(hall, log):
    """For each item of a log its name, the row with the word, and whether it was let."""
    rows = [board[2] for board in hall.boards]
    found = []
    for item in log:
        board, word = item[1], item[2]
        let = item[0] == "answered" or item[3]
        found.append((hall.boards[board][0], rows[board] + (word,), let))
        if let:
            rows[board] += (word,)
    return found


def fault_of(hall, games, log):
    """The fault of a log, straight by what the document says."""
    for at, (name, row, let) in enumerate(tried(hall, log)):
        if (row in games[name]) != let:
            return ("let", at)
    return None


class LogRows(Case):
    def test_rows(self):
        self.tells(((), (), (), ("a",)), log_rows(HALL, []))
        self.tells(((), (), (), ("a",)), log_rows(HALL, ()))
        self.tells((("a", "b"), ("b", "b"), ("x",), ("a", "b", "c")), log_rows(HALL, LOG))
        self.tells((("a", "b"), ("b", "b"), ("x",), ("a", "b", "c")), log_rows(HALL, list(LOG)))
        self.tells(((), (), (), ("a",)), log_rows(HALL, LOG[:1]))
        self.tells((("a",), (), (), ("a",)), log_rows(HALL, LOG[:2]))

    def test_words_are_any(self):
        # A log knows no games, so that a word may be refused here and let there, and refused again.
        log = [("said", 0, "a", False), ("said", 0, "a", False), ("said", 0, "a", True)]
        self.tells((("a",), ()), log_rows(ONE, log))
        self.tells((("z" * 20,), ()), log_rows(ONE, [("said", 0, "z" * 20, True)]))

    def test_bent_items(self):
        for item in NO_ITEMS:
            self.raises("NoLog", {}, log_rows, ONE, [item])
            self.raises("NoLog", {}, log_rows, ONE, (item,))
            self.raises("NoLog", {}, log_rows, ONE, [("said", 0, "b", False), item])
            self.raises("NoLog", {}, log_rows, ONE, (item, ("said", 0, "b", False)))

    def test_turns(self):
        self.raises("NoLog", {}, log_rows, ONE, [("said", 0, "a", True), ("said", 0, "a", True)])
        self.raises("NoLog", {}, log_rows, ONE, [("said", 0, "a", True), ("said", 0, "a", False)])
        self.raises("NoLog", {}, log_rows, ONE, [("answered", 1, "a"), ("answered", 1, "a")])
        self.raises("NoLog", {}, log_rows, ONE, [("said", 0, "a", False), ("answered", 0, "a")])
        self.raises("NoLog", {}, log_rows, HALL, [("answered", 3, "b")])
        self.tells((("a", "a"), ("b",)), log_rows(ONE, [("said", 0, "a", True), ("answered", 1, "b"),
                                                        ("answered", 0, "a")]))

    def test_rows_of_sixty_words(self):
        self.tells((row_of(60), ()), log_rows(ONE, long_log(60)))
        self.raises("NoLog", {}, log_rows, ONE, long_log(61))
        self.tells((row_of(60), ()), log_rows(ONE, long_log(60) + [("said", 0, "a", False)] * 3))
        self.tells((row_of(59), ()), log_rows(ONE, long_log(59)))
        second = Hall((("g", 1, row_of(20)),))
        log = [("answered", 0, "a"), ("said", 0, "a", True)] * 20
        self.tells((row_of(60),), log_rows(second, log))
        self.raises("NoLog", {}, log_rows, second, log + [("answered", 0, "a")])

    def test_large_halls(self):
        hall = joined(fresh_hall(12, 0), fresh_hall(0, 12))
        rows = log_rows(hall, [("answered", 23, "a"), ("said", 0, "b", True)])
        self.tells((("b",),) + ((),) * 22 + (("a",),), rows)
        self.raises("NoLog", {}, log_rows, hall, [("answered", 24, "a")])

    def test_odd(self):
        self.refuses_odd("NoLog", lambda thing: log_rows(ONE, thing), [(), []])
        self.refuses_odd("NoLog", lambda thing: log_rows(ONE, [thing]))
        for thing in odd_things():
            if not isinstance(thing, str):
                self.raises("NoLog", {}, log_rows, ONE, [("said", 0, thing, False)])
                self.raises("NoLog", {}, log_rows, ONE, [(thing, 0, "a", False)])
            if not isinstance(thing, bool):
                self.raises("NoLog", {}, log_rows, ONE, [("said", 0, "a", thing)])
            if not same(thing, 1):
                self.raises("NoLog", {}, log_rows, ONE, [("answered", thing, "a")])

    def test_like_a_sitting(self):
        chance = random.Random(71)
        for _ in range(60):
            hall = chance_hall(chance)
            sitting = played(chance, hall, chance_games(chance, hall))
            self.tells(sitting.rows(), log_rows(hall, sitting.log()))


def played(chance, hall, games, many=30):
    """A sitting that was led on by chance."""
    sitting = Sitting(hall, games)
    for _ in range(many):
        board = chance.randrange(len(hall.boards))
        if sitting.turns()[board]:
            sitting.say(board, chance.choice("abc"))
        else:
            words = words_at(games[hall.boards[board][0]], sitting.rows()[board])
            if words:
                sitting.answer(board, chance.choice(words))
    return sitting


class LogFault(Case):
    def test_right_logs(self):
        self.assertIsNone(log_fault(HALL, GAMES, []))
        self.assertIsNone(log_fault(HALL, GAMES, ()))
        self.assertIsNone(log_fault(HALL, GAMES, LOG))
        self.assertIsNone(log_fault(HALL, GAMES, list(LOG)))

    def test_first_wrong_item(self):
        self.tells(("let", 0), log_fault(HALL, GAMES, [("said", 0, "a", False), ("said", 0, "c", True)]))
        self.tells(("let", 0), log_fault(HALL, GAMES, [("said", 0, "c", True), ("answered", 0, "b")]))
        self.tells(("let", 1), log_fault(HALL, GAMES, [("said", 0, "a", True), ("answered", 0, "a")]))
        self.tells(("let", 8), log_fault(HALL, GAMES, LOG[:8] + (("answered", 3, "b"),) + LOG[:1]))
        self.tells(("let", 3), log_fault(HALL, GAMES, LOG[:3] + (("said", 1, "b", False),) + LOG[4:]))
        self.tells(("let", 0), log_fault(ONE, {"g": ((),)}, long_log(60)))
        self.tells(("let", 30), log_fault(ONE, {"g": chain_of(30)}, long_log(60)))
        self.assertIsNone(log_fault(ONE, {"g": chain_of(60)}, long_log(60)))

    def test_rows_of_sixty_words(self):
        self.assertIsNone(log_fault(ONE, {"g": chain_of(60)}, long_log(60) + [("said", 0, "a", False)]))
        self.tells(("form",), log_fault(ONE, {"g": chain_of(60)}, long_log(61)))

    def test_no_logs(self):
        for item in NO_ITEMS:
            self.tells(("form",), log_fault(ONE, {"g": GAME}, [item]))
            if item != ("answered", 0, "a"):
                # What has no form is told ahead of what is not let.
                self.tells(("form",), log_fault(ONE, {"g": ((),)}, [("said", 0, "a", True), item]))
        for thing in odd_things():
            expected = None if same(thing, ()) or same(thing, []) else ("form",)
            self.assertEqual(log_fault(ONE, {"g": GAME}, thing), expected)
            self.tells(("form",), log_fault(ONE, {"g": GAME}, (thing,)))

    def test_errors(self):
        for games in (None, {}, {"g": GAME}, {**GAMES, "i": ((),)}, {"g": ((),), "h": ((),)}, {"g": GAME, "h": ()}):
            self.raises("NoGames", {}, log_fault, HALL, games, None)
            self.raises("NoGames", {}, log_fault, HALL, games, LOG)
        self.refuses_odd("NoGames", lambda thing: log_fault(ONE, thing, []), [{"g": ((),)}])

    def test_arguments_stay(self):
        games, log = copy.deepcopy(GAMES), list(LOG)
        log_fault(HALL, games, log)
        heard_games(HALL, log)
        log_rows(HALL, log)
        self.assertTrue(same(games, GAMES) and same(log, list(LOG)))

    def test_by_chance(self):
        chance = random.Random(72)
        told = {True: 0, False: 0}
        for _ in range(300):
            hall = chance_hall(chance)
            games = chance_games(chance, hall)
            log = chance_log(chance, hall, chance.randrange(6))
            fault = log_fault(hall, games, log)
            self.assertEqual(fault, fault_of(hall, games, log))
            told[fault is None] += 1
            sitting = played(chance, hall, games)
            self.assertIsNone(log_fault(hall, games, sitting.log()))
        self.assertGreater(min(told.values()), 30)


class HeardGames(Case):
    def test_games(self):
        self.tells(least_games(HALL), heard_games(HALL, []))
        self.tells({"g": GAME, "h": ((), ("x",))}, heard_games(HALL, LOG))
        self.tells({"g": ((), ("a",)), "h": ((),)}, heard_games(HALL, (("said", 0, "a", True),)))
        self.tells({"g": ((), ("a",), ("b",)), "h": ((),)}, heard_games(HALL, [("answered", 1, "b")]))
        self.assertIsNot(heard_games(HALL, LOG), heard_games(HALL, LOG))

    def test_refused_words_that_are_let(self):
        # What is refused on one board, and let on another one of the same name, ahead of it or behind it.
        both = fresh_hall(2, 0)
        refused, let = ("said", 0, "a", False), ("said", 1, "a", True)
        self.assertIsNone(heard_games(both, [refused, let]))
        self.assertIsNone(heard_games(both, [let, refused]))
        self.assertIsNone(heard_games(both, [refused, ("said", 0, "a", True)]))
        self.tells({"g": ((), ("b",))}, heard_games(both, [refused, ("said", 1, "b", True)]))
        apart = Hall((("g", 0, ()), ("h", 0, ())))
        self.tells({"g": ((),), "h": ((), ("a",))}, heard_games(apart, [refused, let]))
        # Rows with which boards begin are let, too.
        self.assertIsNone(heard_games(HALL, [("said", 0, "a", False)]))
        self.tells({"g": ((), ("a",)), "h": ((),)}, heard_games(HALL, [("said", 0, "b", False)]))
        # At another row a word is another thing.
        turned_log = [("answered", 1, "b"), ("said", 1, "a", False), ("said", 0, "a", True)]
        self.tells({"g": ((), ("a",), ("b",)), "h": ((),)}, heard_games(HALL, turned_log))

    def test_answers_of_masters_clash_with_refused_words(self):
        self.assertIsNone(heard_games(ONE, [("said", 0, "a", False), ("answered", 1, "a")]))
        self.tells({"g": ((), ("b",))}, heard_games(ONE, [("said", 0, "a", False), ("answered", 1, "b")]))

    def test_six_hundred_rows(self):
        hall = fresh_hall(6, 6)
        words = [50] * 11 + [49]
        log = wide_log(hall, words)
        games = heard_games(hall, log)
        self.assertEqual(len(games["g"]), 600)
        self.assertTrue(are_games(hall, games))
        self.assertIsNone(log_fault(hall, games, log))
        more = wide_log(hall, [50] * 12)
        self.raises("TooMany", {"most": 600}, heard_games, hall, more)
        # It is raised also where nothing fits, but not ahead of NoLog.
        first = ("said", 0, many_words(1)[0], False)
        self.assertIsNone(heard_games(hall, [first] + log))
        self.raises("TooMany", {"most": 600}, heard_games, hall, [first] + more)
        self.raises("NoLog", {}, heard_games, hall, more + [None])
        # Each game has rows of its own.
        other = joined(hall, Hall(tuple(("h", side, ()) for _, side, _ in hall.boards)))
        self.assertEqual([len(game) for game in heard_games(other, wide_log(other, words * 2)).values()], [600, 600])
        self.raises("TooMany", {"most": 600}, heard_games, other, wide_log(other, words + [50] * 12))

    def test_errors(self):
        self.refuses_odd("NoLog", lambda thing: heard_games(ONE, thing), [(), []])
        for item in NO_ITEMS:
            self.raises("NoLog", {}, heard_games, ONE, [item])
        self.raises("NoLog", {}, heard_games, ONE, long_log(61))

    def test_second_fact_by_chance(self):
        chance = random.Random(73)
        told = {True: 0, False: 0}
        for _ in range(400):
            hall = chance_hall(chance, 4, "g")
            log = chance_log(chance, hall, chance.randrange(8))
            games = heard_games(hall, log)
            told[games is None] += 1
            # Whatever games there are, all that was let is in them, so the least ones decide.
            rows = {row for _, row, let in tried(hall, log) if let} | set(least_games(hall)["g"])
            least = {"g": tuple(sorted(rows))}
            self.assertEqual(games is None, fault_of(hall, least, log) is not None)
            if games is not None:
                self.tells(least, games)
                self.assertIsNone(log_fault(hall, games, log))
            self.assertTrue(same(games, heard_games(hall, tuple(log))))
        self.assertGreater(min(told.values()), 50)

    def test_right_logs_by_chance(self):
        chance = random.Random(74)
        for _ in range(100):
            hall = chance_hall(chance)
            games = chance_games(chance, hall)
            sitting = played(chance, hall, games)
            heard = heard_games(hall, sitting.log())
            self.assertTrue(are_games(hall, heard))
            self.assertIsNone(log_fault(hall, heard, sitting.log()))
            for name in hall.names:
                self.assertTrue(set(heard[name]) <= set(games[name]))


if __name__ == "__main__":
    unittest.main()
