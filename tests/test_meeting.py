"""10.1 and 10.2: one and the same master at each side."""

import copy
import itertools
import random
import unittest

from tests.helpers import Case, chance_aim, chance_games, chance_hall, fresh_hall, odd_things, reaches, same, words_at
from tests.test_games import row_of
from tests.test_playing import chance_guest, clever, eager
from untoldgames.halls import Hall, are_games, joined
from untoldgames.meeting import evened, is_met_spoiler, met_games, met_spoiler, two_sided
from untoldgames.playing import led

H = Hall((("g", 0, ()), ("g", 0, ()), ("g", 1, ())))
F = ("some", (("all", (0, 1)), 2))
TWO = Hall((("h", 0, ()), ("g", 0, ()), ("g", 1, ()), ("h", 1, ()), ("i", 1, ()), ("b", 0, ())))
BEGUN = Hall((("g", 0, ()), ("g", 1, ("a",))))
LATE = Hall((("g", 0, ("a",)), ("g", 1, ())))
NEVER = ("some", ())
ALWAYS = ("all", ())


def names_hall(names, sides=(0, 1)):
    """A fresh hall with a board of each of some names at each of some sides, of any size."""
    boards = tuple((name, side, ()) for name in names for side in sides)
    hall = Hall(boards[:12])
    for at in range(12, len(boards), 12):
        hall = joined(hall, Hall(boards[at:at + 12]))
    return hall


def choices(names):
    """All choices for some names."""
    return [tuple(zip(names, sides)) for sides in itertools.product((0, 1), repeat=len(names))]


def chosen(hall, choice):
    """The boards of a choice, straight by what the document says."""
    return tuple(at for at, (name, side, _) in enumerate(hall.boards) if (name, side) in choice)


def both_sides(hall):
    """The two-sided names, straight by what the document says."""
    return sorted(name for name in set(board[0] for board in hall.boards)
                  if {side for other, side, _ in hall.boards if other == name} == {0, 1})


class TwoSided(Case):
    def test_names(self):
        self.tells(["g"], two_sided(H))
        self.tells(["g", "h"], two_sided(TWO))
        self.tells([], two_sided(fresh_hall(3, 0)))
        self.tells([], two_sided(fresh_hall(0, 1)))
        self.tells([], two_sided(Hall((("g", 0, ()), ("h", 1, ())))))
        self.tells(list("abcdefghijklm"), two_sided(names_hall("mabcdefghijkl")))
        self.assertIsNot(two_sided(H), two_sided(H))

    def test_not_fresh(self):
        self.raises("NotFresh", {}, two_sided, BEGUN)
        self.raises("NotFresh", {}, two_sided, LATE)


class MetSpoiler(Case):
    def test_example(self):
        self.assertIsNone(met_spoiler(H, F))

    def test_choices(self):
        self.tells((("g", 1),), met_spoiler(H, ("all", (0, 1))))
        self.tells((("g", 0),), met_spoiler(H, 2))
        self.tells((("g", 0),), met_spoiler(H, ("all", (2,))))
        self.assertIsNone(met_spoiler(H, ALWAYS))
        self.assertTrue(is_met_spoiler(H, NEVER, met_spoiler(H, NEVER)))
        # Where no name is two-sided there is just the choice for no names.
        self.tells((), met_spoiler(fresh_hall(2, 0), ("some", (0, 1))))
        self.assertIsNone(met_spoiler(fresh_hall(2, 0), ALWAYS))

    def test_boards_of_one_sided_names_are_lost(self):
        self.assertIsNotNone(met_spoiler(TWO, ("some", (4, 5))))
        self.assertIsNone(met_spoiler(TWO, ("some", (4, 5, 1, 2))))
        self.tells((("g", 1), ("h", 0)), met_spoiler(TWO, ("some", (1, 3))))
        self.tells((("g", 0), ("h", 1)), met_spoiler(TWO, ("some", (2, 0))))

    def test_twelve_names(self):
        hall = names_hall("abcdefghijkl")
        for sides in ((0,) * 12, (1,) * 12, (0, 1) * 6, (0,) * 11 + (1,), (1,) + (0,) * 11):
            won = tuple(2 * at + side for at, side in enumerate(sides))
            lost = tuple(2 * at + 1 - side for at, side in enumerate(sides))
            self.tells(tuple(zip("abcdefghijkl", sides)), met_spoiler(hall, ("some", lost)))
            self.assertIsNone(met_spoiler(hall, ("some", lost + won[:1])))
        more = joined(hall, Hall((("x", 0, ()),)))
        self.assertIsNotNone(met_spoiler(more, 24))

    def test_errors(self):
        thirteen = names_hall("abcdefghijklm")
        self.raises("TooMany", {"most": 12}, met_spoiler, thirteen, NEVER)
        self.raises("TooMany", {"most": 12}, met_spoiler, thirteen, ALWAYS)
        self.raises("NoAim", {}, met_spoiler, thirteen, 26)
        self.refuses_odd("NoAim", lambda thing: met_spoiler(H, thing), (0, 1, 2))
        for hall in (BEGUN, LATE, joined(thirteen, BEGUN)):
            self.raises("NotFresh", {}, met_spoiler, hall, None)
            self.raises("NotFresh", {}, met_spoiler, hall, NEVER)

    def test_by_chance(self):
        chance = random.Random(101)
        told = {True: 0, False: 0}
        for _ in range(300):
            hall = chance_hall(chance, 8, "ghi", ((),))
            aim = chance_aim(chance, len(hall.boards))
            names = both_sides(hall)
            self.tells(names, two_sided(hall))
            right = [choice for choice in choices(names) if not reaches(aim, chosen(hall, choice))]
            found = met_spoiler(hall, aim)
            told[found is None] += 1
            if found is None:
                self.assertEqual(right, [])
            else:
                self.assertTrue(any(same(found, choice) for choice in right))
            for choice in choices(names):
                self.assertIs(is_met_spoiler(hall, aim, choice), choice in right)
            self.assertTrue(same(found, met_spoiler(hall, aim)))
        self.assertGreater(min(told.values()), 40)


class IsMetSpoiler(Case):
    def test_judged(self):
        self.assertIs(is_met_spoiler(H, 2, (("g", 0),)), True)
        self.assertIs(is_met_spoiler(H, 2, (("g", 1),)), False)
        self.assertIs(is_met_spoiler(H, F, (("g", 0),)), False)
        self.assertIs(is_met_spoiler(H, F, (("g", 1),)), False)
        self.assertIs(is_met_spoiler(fresh_hall(1, 0), 0, ()), True)
        self.assertIs(is_met_spoiler(fresh_hall(1, 0), 0, (("g", 0),)), False)
        self.assertIs(is_met_spoiler(fresh_hall(1, 0), 0, (("g", 1),)), False)
        self.assertIs(is_met_spoiler(TWO, NEVER, (("g", 1), ("h", 0))), True)

    def test_spoiled_choices(self):
        for thing in (
                None, (), (("g", 1),), (("h", 0),), (("g", 1), ("h", 0), ("i", 1)), (("g", 1), ("g", 0), ("h", 0)),
                (("g", 1), ("g", 1), ("h", 0)), (("h", 0), ("g", 1)), [("g", 1), ("h", 0)], (["g", 1], ["h", 0]),
                (("g", True), ("h", 0)), (("g", 1), ("h", False)), (("g", 2), ("h", 0)), (("g", -1), ("h", 0)),
                (("g", None), ("h", 0)), (("g", "1"), ("h", 0)), (("g",), ("h",)), (("g", 1, 0), ("h", 0, 1)),
                {"g": 1, "h": 0}, (("g", 1), ("i", 0)), (("G", 1), ("h", 0)), ((b"g", 1), ("h", 0)),
                (("g", 1), None), ("g1", "h0"), (("g", (1,)), ("h", 0)), (("g", [1]), ("h", {}))):
            self.assertIs(is_met_spoiler(TWO, NEVER, thing), False, thing)
            self.raises("NoChoice", {}, met_games, TWO, thing)

    def test_odd(self):
        self.judges_odd(lambda thing: is_met_spoiler(H, NEVER, thing), [(("g", 0),)])
        self.judges_odd(lambda thing: is_met_spoiler(H, NEVER, (("g", thing),)), (0, 1))
        self.judges_odd(lambda thing: is_met_spoiler(H, NEVER, ((thing, 1),)), ("g",))
        self.judges_odd(lambda thing: is_met_spoiler(fresh_hall(1, 0), NEVER, thing), [()])

    def test_more_than_twelve_names(self):
        hall = names_hall("abcdefghijklm")
        choice = tuple((name, 0) for name in "abcdefghijklm")
        self.assertIs(is_met_spoiler(hall, 1, choice), True)
        self.assertIs(is_met_spoiler(hall, 0, choice), False)
        self.assertIs(is_met_spoiler(hall, 1, choice[1:]), False)

    def test_errors(self):
        self.refuses_odd("NoAim", lambda thing: is_met_spoiler(H, thing, None), (0, 1, 2))
        for hall in (BEGUN, LATE):
            self.raises("NotFresh", {}, is_met_spoiler, hall, None, None)
            self.raises("NotFresh", {}, is_met_spoiler, hall, NEVER, (("g", 0),))


class Evened(Case):
    def test_moves(self):
        self.assertIsNone(evened(H, ((), (), ())))
        self.tells((0, "a"), evened(H, ((), (), ("a",))))
        self.tells((1, "a"), evened(H, (("a",), (), ())))
        self.tells((1, "a"), evened(H, (("a",), (), ("a", "b"))))
        # On the board 2 a master is to move at ().
        self.assertIsNone(evened(H, (("a",), ("a",), ())))
        self.tells((2, "c"), evened(H, (("a", "c"), ("b",), ("a",))))

    def test_longest_row(self):
        self.tells((0, "b"), evened(H, ((), ("b", "c", "d"), ("a",))))
        self.tells((0, "a"), evened(H, ((), ("b",), ("a", "c"))))
        self.tells((0, "b"), evened(H, ((), ("b", "c"), ("a", "c"))))
        self.tells((0, "b"), evened(H, ((), ("b",), ("a",))))
        three = fresh_hall(3, 1)
        self.tells((0, "c"), evened(three, ((), ("b",), ("c", "d"), ("a", "a"))))
        self.tells((1, "z"), evened(three, (("b", "a", "c"), (), ("b", "a"), ("z", "z", "z", "z"))))
        # Rows that do not begin likewise do not count, however long.
        self.tells((0, "c"), evened(three, (("a", "b"), ("a",), ("a", "b", "c"), ("x",) * 9)))

    def test_only_boards_of_two_sided_names(self):
        hall = Hall((("g", 0, ()), ("g", 0, ()), ("h", 0, ()), ("h", 1, ())))
        self.assertIsNone(evened(hall, ((), ("a",), ("b",), ())))
        self.tells((2, "c"), evened(hall, ((), ("a",), (), ("c",))))
        # Rows of other names do not count.
        self.assertIsNone(evened(hall, ((), ("a", "b"), (), ())))

    def test_rows_of_sixty_words(self):
        hall = fresh_hall(1, 1)
        self.tells((0, "a"), evened(hall, (row_of(2), row_of(60))))
        self.assertIsNone(evened(hall, (row_of(60), row_of(60))))
        self.raises("NoRows", {}, evened, hall, ((), row_of(61)))

    def test_errors(self):
        for hall in (BEGUN, LATE):
            self.raises("NotFresh", {}, evened, hall, None)
            self.raises("NotFresh", {}, evened, hall, (("a",), ("a",)))
        for rows in (None, [(), (), ()], ((), ()), ((), (), (), ()), ((), (), []), ((), (), ("A",)), ((), (), "")):
            self.raises("NoRows", {}, evened, H, rows)
        self.refuses_odd("NoRows", lambda thing: evened(H, thing))
        self.refuses_odd("NoRows", lambda thing: evened(H, ((), (), thing)), [(), ("a",), ("all",)])

    def test_arguments_stay(self):
        rows = ((), ("b", "c"), ("a",))
        before = copy.deepcopy(rows)
        evened(H, rows)
        self.assertEqual(rows, before)


def one_master(games, hall, seed, waiting):
    """Masters by chance, one and the same at each side of each game."""
    def masters(board, row):
        name = hall.boards[board][0]
        chance = random.Random(f"{seed} {name} {row}")
        words = words_at(games[name], row)
        return None if not words or chance.random() < waiting else chance.choice(words)

    return masters


class FourthFact(Case):
    def test_all_boards_of_one_side_are_won(self):
        chance = random.Random(102)
        told = {0: 0, 1: 0}
        for turn in range(150):
            hall = chance_hall(chance, 8, chance.choice(("g", "gh")), ((),))
            games = chance_games(chance, hall, "ab", 7, 0.8)
            kinds = [one_master(games, hall, turn, waiting) for waiting in (0, 0.3, 1)]
            for masters in kinds + [eager(games, hall), clever(games, hall)]:
                won, _ = led(hall, games, lambda rows, refused: evened(hall, rows), masters)
                for name in two_sided(hall):
                    sides = [side for side in (0, 1) if set(chosen(hall, ((name, side),))) <= set(won)]
                    self.assertTrue(sides, (hall.boards, games, won))
                    told[sides[0]] += 1
        self.assertGreater(min(told.values()), 100)

    def test_who_sees_a_choice_cannot_win_more(self):
        chance = random.Random(103)
        for turn in range(120):
            hall = chance_hall(chance, 7, "ghi", ((),))
            choice = chance.choice(choices(both_sides(hall)))
            games = met_games(hall, choice)
            masters = eager(games, hall)
            guests = (chance_guest(hall, turn), lambda rows, refused: evened(hall, rows), greedy(hall, games))
            for guest in guests:
                won, _ = led(hall, games, guest, masters)
                self.assertTrue(set(won) <= set(chosen(hall, choice)), (hall.boards, choice, won))
            won, _ = led(hall, games, greedy(hall, games), masters)
            self.tells(chosen(hall, choice), won)


def greedy(hall, games):
    """A guest who says what is let wherever it can."""
    def guest(rows, refused):
        for at, (name, side, _) in enumerate(hall.boards):
            if len(rows[at]) % 2 == side and words_at(games[name], rows[at]):
                return (at, words_at(games[name], rows[at])[0])
        return None

    return guest


class MetGames(Case):
    def test_games(self):
        first, second = ((), ("a",)), ((),)
        self.tells({"g": first}, met_games(H, (("g", 0),)))
        self.tells({"g": second}, met_games(H, (("g", 1),)))
        self.tells({"g": second, "h": first, "i": first, "b": second}, met_games(TWO, (("g", 1), ("h", 0))))
        self.tells({"g": first, "h": second, "i": first, "b": second}, met_games(TWO, (("g", 0), ("h", 1))))
        self.tells({"g": second}, met_games(fresh_hall(2, 0), ()))
        self.tells({"g": first}, met_games(fresh_hall(0, 2), ()))
        self.assertTrue(are_games(TWO, met_games(TWO, (("g", 0), ("h", 1)))))
        self.assertIsNot(met_games(H, (("g", 0),)), met_games(H, (("g", 0),)))

    def test_many_names(self):
        hall = names_hall("abcdefghijklm")
        choice = tuple((name, at % 2) for at, name in enumerate("abcdefghijklm"))
        told = met_games(hall, choice)
        self.assertEqual([len(told[name]) for name in "abcdefghijklm"], [2, 1] * 6 + [2])

    def test_errors(self):
        for hall in (BEGUN, LATE):
            self.raises("NotFresh", {}, met_games, hall, None)
            self.raises("NotFresh", {}, met_games, hall, (("g", 0),))
        self.refuses_odd("NoChoice", lambda thing: met_games(H, thing), [(("g", 0),)])
        self.refuses_odd("NoChoice", lambda thing: met_games(H, (("g", thing),)), (0, 1))
        for thing in odd_things():
            if not same(thing, ()):
                self.raises("NoChoice", {}, met_games, fresh_hall(1, 0), thing)


if __name__ == "__main__":
    unittest.main()
