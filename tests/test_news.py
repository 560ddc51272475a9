"""19.2: what a log tells of words."""

import copy
import itertools
import random
import unittest

from tests.helpers import Case, chance_hall, fresh_hall, many_words, same
from tests.test_games import row_of
from tests.test_logs import NO_ITEMS, chance_log, long_log, wide_log
from untoldgames.halls import Hall, are_games, joined
from untoldgames.logs import heard_games, log_fault
from untoldgames.news import certain, news

# Boards 0 and 3 are the guest's to move on, boards 1 and 2 the masters'.
HALL = Hall((("g", 0, ()), ("g", 1, ()), ("h", 1, ()), ("g", 1, ("a",))))
LOG = (
    ("said", 0, "c", False), ("said", 0, "a", True), ("answered", 1, "b"), ("said", 1, "x", False),
    ("said", 1, "b", True), ("answered", 2, "x"), ("said", 3, "b", True), ("answered", 0, "b"), ("answered", 3, "c"))
ONE = fresh_hall(1, 1)
CLASH = (("said", 0, "a", False), ("answered", 1, "a"))


def all_games(letters, longest):
    """All games of rows of at most so many words of some letters."""
    if longest == 0:
        return [((),)]
    less = all_games(letters, longest - 1)
    found = []
    for behind in itertools.product([None] + less, repeat=len(letters)):
        rows = [()]
        for word, game in zip(letters, behind):
            if game is not None:
                rows += [(word,) + row for row in game]
        found.append(tuple(sorted(rows)))
    return found


GAMES = all_games("ab", 3)


class News(Case):
    def test_let(self):
        self.tells("let", news(HALL, LOG, "g", (), "a"))
        self.tells("let", news(HALL, LOG, "g", (), "b"))
        self.tells("let", news(HALL, LOG, "g", ("b",), "b"))
        self.tells("let", news(HALL, LOG, "g", ("a", "b"), "c"))
        self.tells("let", news(HALL, LOG, "h", (), "x"))
        # A row with which a board begins is in all games.
        self.tells("let", news(HALL, (), "g", (), "a"))

    def test_refused(self):
        self.tells("refused", news(HALL, LOG, "g", (), "c"))
        self.tells("refused", news(HALL, LOG, "g", ("b",), "x"))
        # The row goes by a word that was refused ahead of it.
        self.tells("refused", news(HALL, LOG, "g", ("c",), "a"))
        self.tells("refused", news(HALL, LOG, "g", ("c", "a", "b"), "a"))
        self.tells("refused", news(HALL, LOG, "g", ("b", "x"), "y"))
        self.tells("refused", news(HALL, LOG, "g", ("b", "x", "z"), "y"))

    def test_open(self):
        self.tells("open", news(HALL, LOG, "g", (), "d"))
        self.tells("open", news(HALL, LOG, "g", ("b",), "c"))
        self.tells("open", news(HALL, LOG, "g", ("d", "e"), "f"))
        # What is refused at one row, or in one game, tells nothing of another one.
        self.tells("open", news(HALL, LOG, "g", ("a",), "c"))
        self.tells("open", news(HALL, LOG, "g", ("b", "b"), "x"))
        self.tells("open", news(HALL, LOG, "h", (), "c"))
        self.tells("open", news(HALL, LOG, "h", ("x",), "a"))
        self.tells("open", news(HALL, (), "g", (), "c"))
        self.tells("open", news(HALL, [], "h", (), "z" * 20))

    def test_rows_of_fifty_nine_and_sixty_words(self):
        self.tells("open", news(ONE, (), "g", row_of(59), "a"))
        self.tells("refused", news(ONE, (), "g", row_of(60), "a"))
        self.raises("NoRow", {}, news, ONE, (), "g", row_of(61), "a")
        log = long_log(60)
        self.tells("let", news(ONE, log, "g", row_of(59), "a"))
        self.tells("open", news(ONE, log, "g", row_of(59), "b"))
        self.tells("refused", news(ONE, log, "g", row_of(60), "a"))
        self.tells("open", news(ONE, log, "g", row_of(58) + ("b",), "a"))
        self.tells("refused", news(ONE, log + [("said", 0, "a", False)], "g", row_of(60), "b"))

    def test_more_than_six_hundred_rows_in_a_game(self):
        hall = fresh_hall(6, 6)
        log = wide_log(hall, [60] * 12)
        self.raises("TooMany", {"most": 600}, heard_games, hall, log)
        words = many_words(12)
        for word in words:
            self.tells("let", news(hall, log, "g", (), word))
            self.tells("let", news(hall, log, "g", (word,) + ("z",) * 58, "z"))
            self.tells("refused", news(hall, log, "g", (word,) + ("z",) * 59, "z"))
            self.tells("open", news(hall, log, "g", (word,) + ("z",) * 58, "y"))
        self.tells("open", news(hall, log, "g", (), "zz"))
        self.raises("NoLog", {}, news, hall, [("said", 0, words[11], False)] + log, "g", (), "a")
        self.assertEqual(certain(hall, log), [])

    def test_no_logs(self):
        for item in NO_ITEMS:
            self.raises("NoLog", {}, news, ONE, [item], None, None, None)
            self.raises("NoLog", {}, certain, ONE, [item])
        self.refuses_odd("NoLog", lambda thing: news(ONE, thing, "g", (), "a"), [(), []])
        self.refuses_odd("NoLog", lambda thing: certain(ONE, thing), [(), []])
        self.raises("NoLog", {}, news, ONE, long_log(61), "g", (), "a")
        self.raises("NoLog", {}, certain, ONE, long_log(61))

    def test_logs_that_have_a_fault_by_all_games(self):
        both = fresh_hall(2, 0)
        refused, let = ("said", 0, "a", False), ("said", 1, "a", True)
        for hall, log in ((ONE, CLASH), (ONE, CLASH[::-1]), (both, [refused, let]), (both, [let, refused]),
                          (HALL, [("said", 0, "a", False)])):
            self.raises("NoLog", {}, news, hall, log, None, None, None)
            self.raises("NoLog", {}, news, hall, log, "g", (), "b")
            self.raises("NoLog", {}, certain, hall, log)
        self.tells("refused", news(both, [refused], "g", (), "a"))

    def test_other_errors(self):
        for name in ("i", "G", "", "gg", None, 0, True, b"g", ("g",), ["g"], {"g": 0}):
            self.raises("NoName", {}, news, HALL, LOG, name, None, None)
        for row in (None, [], "", ("A",), (1,), ["a"], "a", row_of(61), {}, ((),)):
            self.raises("NoRow", {}, news, HALL, LOG, "g", row, None)
        for word in ("", "A", "a" * 21, "a b", b"a", None, 0, ("a",), ["a"], {"a": 1}):
            self.raises("NoWord", {}, news, HALL, LOG, "g", (), word)
            self.raises("NoWord", {}, news, HALL, LOG, "g", row_of(60), word)
        self.refuses_odd("NoName", lambda thing: news(ONE, (), thing, None, None), ("g",))
        self.refuses_odd("NoRow", lambda thing: news(ONE, (), "g", thing, None), [(), ("a",), ("all",)])
        self.refuses_odd("NoWord", lambda thing: news(ONE, (), "g", (), thing), ("a", "b", "g", "ab", "all"))

    def test_against_all_games_by_chance(self):
        chance = random.Random(197)
        told = {"let": 0, "refused": 0, "open": 0, None: 0}
        rows = [row for longest in range(3) for row in itertools.product("ab", repeat=longest)]
        for _ in range(60):
            hall = chance_hall(chance, 3, "g", ((), ("a",), ("b",)))
            log = chance_log(chance, hall, chance.randrange(7))
            if max(len(row) for row in lengths(hall, log)) > 3:
                continue
            fitting = [game for game in GAMES
                       if are_games(hall, {"g": game}) and log_fault(hall, {"g": game}, log) is None]
            if not fitting:
                told[None] += 1
                self.raises("NoLog", {}, news, hall, log, "g", (), "a")
                self.raises("NoLog", {}, certain, hall, log)
                continue
            for row, word in itertools.product(rows, "ab"):
                letting = [row + (word,) in game for game in fitting]
                right = "let" if all(letting) else "open" if any(letting) else "refused"
                self.tells(right, news(hall, log, "g", row, word))
                told[right] += 1
        self.assertGreater(min(told.values()), 5)


def lengths(hall, log):
    """The rows behind a log, and those that were tried."""
    rows = [board[2] for board in hall.boards]
    found = list(rows)
    for item in log:
        longer = rows[item[1]] + (item[2],)
        found.append(longer)
        if item[-1] is not False:
            rows[item[1]] = longer
    return found


class Certain(Case):
    def test_words(self):
        # The boards stand at (a, b), (b, b), (x) and (a, b, c), and the guest is to move at 0, 2 and 3.
        self.tells([(0, "c")], certain(HALL, LOG))
        self.tells([], certain(ONE, ()))
        # A row with which the board 3 begins tells of the board 0.
        self.tells([(0, "a")], certain(HALL, []))
        self.tells([], certain(HALL, [("said", 0, "b", True)]))

    def test_order(self):
        hall = Hall((("g", 0, ()), ("g", 1, ("c",)), ("g", 1, ("a",)), ("g", 0, ()), ("g", 1, ("b",)), ("g", 1, ())))
        self.tells([(0, "a"), (0, "b"), (0, "c"), (3, "a"), (3, "b"), (3, "c")], certain(hall, ()))
        log = [("answered", 5, "b"), ("said", 4, "x", True), ("said", 0, "a", True), ("said", 2, "bb", True),
               ("answered", 0, "ba")]
        self.tells([(3, "a"), (3, "b"), (3, "c"), (5, "x")], certain(hall, log))
        more = log + [("said", 5, "w", True), ("said", 1, "a", True), ("answered", 1, "b")]
        self.tells([(3, "a"), (3, "b"), (3, "c")], certain(hall, more))

    def test_words_at_longer_rows_do_not_count(self):
        hall = Hall((("g", 0, ()), ("g", 1, ("a", "b", "c"))))
        self.tells([(0, "a")], certain(hall, ()))

    def test_what_is_returned_is_new(self):
        self.assertIsNot(certain(HALL, LOG), certain(HALL, LOG))
        hall, log = HALL, list(LOG)
        certain(hall, log).clear()
        news(hall, log, "g", (), "a")
        self.tells([(0, "c")], certain(hall, log))
        self.assertTrue(same(log, list(LOG)))

    def test_large_halls(self):
        hall = joined(fresh_hall(12, 0), fresh_hall(0, 12))
        self.tells([(at, "a") for at in range(12)], certain(hall, [("answered", 23, "a")]))

    def test_by_chance(self):
        chance = random.Random(198)
        many = 0
        for _ in range(300):
            hall = chance_hall(chance, 5, "gh", ((), ("a",), ("b",)))
            log = chance_log(chance, hall, chance.randrange(8))
            if heard_games(hall, log) is None:
                self.raises("NoLog", {}, certain, hall, log)
                continue
            rows = [board[2] for board in hall.boards]
            for item in log:
                if item[-1] is not False:
                    rows[item[1]] += (item[2],)
            right = []
            for at, (name, side, _) in enumerate(hall.boards):
                if len(rows[at]) % 2 == side:
                    right += [(at, word) for word in "abc" if news(hall, log, name, rows[at], word) == "let"]
            self.tells(right, certain(hall, log))
            self.tells(right, certain(hall, tuple(copy.deepcopy(log))))
            many += len(right)
        self.assertGreater(many, 50)


if __name__ == "__main__":
    unittest.main()
