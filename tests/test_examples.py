"""The examples of the document, e01 to e16."""

import unittest

from tests.helpers import Case
from untoldgames.aims import dual, least_won, reached
from untoldgames.games import let_words
from untoldgames.halls import Hall
from untoldgames.house import bars
from untoldgames.meeting import met_spoiler
from untoldgames.pairs import pairings, pairs
from untoldgames.playing import copied
from untoldgames.points import most_points, stock_points
from untoldgames.solving import winner
from untoldgames.strength import handicaps
from untoldgames.texts import aim_text, hall_text
from untoldgames.verdicts import sure

H = Hall((("g", 0, ()), ("g", 0, ()), ("g", 1, ())))
F = ("some", (("all", (0, 1)), 2))
GAME = ((), ("a",), ("a", "b"))


class Examples(Case):
    def test_games(self):
        self.tells(("b",), let_words(GAME, ("a",)))
        self.tells(1, winner(GAME, ()))

    def test_halls(self):
        self.tells([(0, 2), (1, 2)], pairs(H))
        self.tells([((0, 2),), ((1, 2),)], pairings(H))
        self.tells(((0, 2),), sure(H, ("some", (0, 2))))
        self.assertIsNone(sure(H, F))
        self.assertIsNone(met_spoiler(H, F))

    def test_aims(self):
        self.tells(True, reached(H, ("least", 2, (0, 1, 2)), (0, 2)))
        self.tells(("least", 2, (0, 1, 2)), dual(H, ("least", 2, (0, 1, 2))))
        self.tells([(0, 1), (2,)], least_won(H, F))

    def test_playing_and_points(self):
        self.tells((0, "a"), copied(H, ((0, 2),), ((), (), ("a",))))
        self.tells((4, ((1, 2),)), most_points(H, (3, 5, 4)))
        self.tells(4, stock_points((("g", 0, 3, 1), ("g", 0, 5, 1), ("g", 1, 4, 1))))

    def test_house_and_strength(self):
        self.tells([(0,)], bars(H, ("some", (0, 2))))
        self.tells([(0,), (1,), (2,)], handicaps(H, F))

    def test_texts(self):
        self.tells("g second a\n", hall_text(Hall((("g", 1, ("a",)),))))
        self.tells("some(all(0,1),2)", aim_text(F))


if __name__ == "__main__":
    unittest.main()
