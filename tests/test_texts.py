"""16.1: how halls, games, logs and aims are written."""

import random
import unittest

from tests.helpers import Case, chance_aim, chance_games, chance_hall, fresh_hall, odd_things, same
from tests.test_games import chain_of, row_of
from tests.test_logs import NO_ITEMS, chance_log, long_log
from untoldgames.halls import Hall, joined
from untoldgames.reading import read_aim, read_games, read_hall, read_log
from untoldgames.texts import aim_text, games_text, hall_text, log_text

F = ("some", (("all", (0, 1)), 2))
# Items with boards beyond those of some hall, which are no wrong ones here, and out of turn.
ANY_HALL = (("said", 2, "a", True), ("answered", 2, "a"), ("said", 1, "a", True), ("said", 1, "a", False),
            ("answered", 0, "a"))


def deep_aim(deep, inmost=0):
    """An aim that is so deep."""
    aim = inmost
    for _ in range(deep - 1):
        aim = ("all", (aim,))
    return aim


class HallText(Case):
    def test_texts(self):
        self.tells("g second a\n", hall_text(Hall((("g", 1, ("a",)),))))
        self.tells("g first -\nabcdefgh second a,b," + "z" * 20 + "\nh first x\n", hall_text(Hall((
            ("g", 0, ()), ("abcdefgh", 1, ("a", "b", "z" * 20)), ("h", 0, ("x",))))))
        self.tells("g first " + ",".join(["a"] * 20) + "\n", hall_text(Hall((("g", 0, row_of(20)),))))

    def test_joined_halls(self):
        hall = joined(fresh_hall(12, 0), fresh_hall(0, 1))
        self.tells("g first -\n" * 12 + "g second -\n", hall_text(hall))
        large = joined(joined(hall, hall), hall)
        self.tells(("g first -\n" * 12 + "g second -\n") * 3, hall_text(large))

    def test_there_and_back(self):
        chance = random.Random(161)
        for _ in range(100):
            hall = chance_hall(chance, 12, ("g", "h", "abcdefgh"), ((), ("a",), ("b", "z" * 20), row_of(20)))
            text = hall_text(hall)
            self.tells(hall.boards, read_hall(text).boards)
            self.tells(text, hall_text(read_hall(text)))


class GamesText(Case):
    def test_texts(self):
        self.tells("", games_text({}))
        self.tells("game g\n", games_text({"g": ((),)}))
        self.tells("game g\na\na,b\nb\ngame h\nx\n",
                   games_text({"h": ((), ("x",)), "g": ((), ("a",), ("a", "b"), ("b",))}))
        self.tells("game a\ngame ab\ngame b\n", games_text({"b": ((),), "ab": ((),), "a": ((),)}))
        # A word may be that of the lines of names.
        self.tells("game game\ngame\ngame,game\n", games_text({"game": ((), ("game",), ("game", "game"))}))

    def test_bounds(self):
        self.tells("game g\n" + "".join(",".join(["a"] * many) + "\n" for many in range(1, 61)),
                   games_text({"g": chain_of(60)}))
        wide = ((),) + tuple((one + other,) for one in "abcdefghijklmnopqrstuvwxyz"
                             for other in "abcdefghijklmnopqrstuvwxyz")[:599]
        self.assertEqual(games_text({"g": wide}).count("\n"), 600)
        self.tells({"g": wide}, read_games(games_text({"g": wide})))

    def test_there_and_back(self):
        chance = random.Random(162)
        for _ in range(60):
            games = chance_games(chance, chance_hall(chance, 5, ("g", "h", "ab", "a")))
            turned = dict(reversed(list(games.items())))
            text = games_text(games)
            self.tells(text, games_text(turned))
            self.tells(games, read_games(text))
            self.tells(text, games_text(read_games(text)))
            self.assertEqual(list(read_games(text)), sorted(games))


class LogText(Case):
    def test_texts(self):
        log = [("said", 0, "c", False), ("said", 0, "a", True), ("answered", 11, "z" * 20)]
        text = "said 0 c no\nsaid 0 a yes\nanswered 11 " + "z" * 20 + "\n"
        self.tells(text, log_text(log))
        self.tells(text, log_text(tuple(log)))
        self.tells("", log_text([]))
        self.tells("", log_text(()))

    def test_logs_of_no_hall(self):
        # Whose turn it is, and how long rows get, says nothing here.
        for item in ANY_HALL:
            self.assertEqual(read_log(log_text([item])), [item])
        self.tells("answered 0 a\n" * 100, log_text([("answered", 0, "a")] * 100))
        self.assertEqual(read_log(log_text(long_log(100))), long_log(100))
        self.assertEqual(log_text([("said", 3, "a", False)] * 2000).count("\n"), 2000)

    def test_boards(self):
        self.tells("said 0 a yes\nanswered 999 b\n", log_text([("said", 0, "a", True), ("answered", 999, "b")]))
        for board in (1000, -1, 10 ** 59, True, False, None, "0"):
            self.raises("NoLog", {}, log_text, [("said", board, "a", True)])
            self.raises("NoLog", {}, log_text, [("answered", board, "a")])

    def test_no_logs(self):
        for item in NO_ITEMS:
            if item not in ANY_HALL or not same(item, ANY_HALL[ANY_HALL.index(item)]):
                self.raises("NoLog", {}, log_text, [item])
                self.raises("NoLog", {}, log_text, (("said", 0, "a", True), item))
        self.refuses_odd("NoLog", log_text, [(), []])
        self.refuses_odd("NoLog", lambda thing: log_text([thing]))
        self.refuses_odd("NoLog", lambda thing: log_text([("said", 0, thing, False)]), ("a", "b", "g", "ab", "all"))
        self.refuses_odd("NoLog", lambda thing: log_text([("said", 0, "a", thing)]), (True, False))
        self.refuses_odd("NoLog", lambda thing: log_text([("answered", thing, "a")]), (0, 1, 2))

    def test_there_and_back(self):
        chance = random.Random(163)
        for _ in range(60):
            hall = chance_hall(chance)
            log = chance_log(chance, hall, chance.randrange(30), ("a", "b", "z" * 20))
            self.tells(log, read_log(log_text(log)))
            self.tells(log_text(log), log_text(read_log(log_text(log))))


class AimText(Case):
    def test_texts(self):
        self.tells("some(all(0,1),2)", aim_text(F))
        self.tells("0", aim_text(0))
        self.tells("1000000", aim_text(10 ** 6))
        self.tells("all()", aim_text(("all", ())))
        self.tells("least 0()", aim_text(("least", 0, ())))
        self.tells("least 25(3,least 1(2),some())", aim_text(("least", 25, (3, ("least", 1, (2,)), ("some", ())))))

    def test_bounds(self):
        self.tells("all(all(all(all(all(all(all(7)))))))", aim_text(deep_aim(8, 7)))
        self.tells("all(all(all(all(all(all(all(some())))))))", aim_text(deep_aim(8, ("some", ()))))
        self.raises("NoAim", {}, aim_text, deep_aim(9))
        self.raises("NoAim", {}, aim_text, deep_aim(9, ("all", ())))
        self.raises("NoAim", {}, aim_text, deep_aim(39))
        self.tells("all(" + ",".join(["1"] * 24) + ")", aim_text(("all", (1,) * 24)))
        self.raises("NoAim", {}, aim_text, ("all", (1,) * 25))
        part = ("some", (0,) * 24)
        self.assertEqual(aim_text(("all", (part,) * 7 + (("some", (0,) * 23),))).count("0"), 191)
        self.raises("NoAim", {}, aim_text, ("all", (part,) * 8))
        self.raises("NoAim", {}, aim_text, 10 ** 6 + 1)
        self.raises("NoAim", {}, aim_text, -1)
        self.raises("NoAim", {}, aim_text, ("least", 26, (0,)))
        self.raises("NoAim", {}, aim_text, ("least", -1, (0,)))

    def test_no_aims(self):
        self.refuses_odd("NoAim", aim_text, (0, 1, 2))
        for thing in odd_things():
            if not any(same(thing, number) for number in (0, 1, 2)):
                self.raises("NoAim", {}, aim_text, ("all", (0, thing)))
            if not any(same(thing, number) for number in (0, 1, 2)):
                self.raises("NoAim", {}, aim_text, ("least", thing, (0,)))

    def test_there_and_back(self):
        chance = random.Random(164)
        for _ in range(200):
            aim = chance_aim(chance, chance.choice((1, 5, 12, 10 ** 6)), chance.randint(1, 5))
            self.tells(aim, read_aim(aim_text(aim)))
            self.tells(aim_text(aim), aim_text(read_aim(aim_text(aim))))


if __name__ == "__main__":
    unittest.main()
