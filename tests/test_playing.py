"""8.1 and 8.2: guests and masters that are led, and copying."""

import copy
import random
import unittest

from tests.helpers import (
    Case, all_pairings, chance_games, chance_hall, chance_masters, fresh_hall, many_words, odd_things, same, words_at)
from tests.test_games import chain_of, row_of
from untoldgames import errors
from untoldgames.halls import Hall, joined
from untoldgames.logs import log_fault, log_rows
from untoldgames.pairs import is_pairing, pairings, pairs
from untoldgames.playing import copied, led
from untoldgames.sittings import Sitting
from untoldgames.solving import good_words

H = Hall((("g", 0, ()), ("g", 0, ()), ("g", 1, ())))
GAME = ((), ("a",), ("a", "b"), ("a", "b", "c"), ("b",), ("b", "b"))
BEGUN = ((), ("a",), ("b",), ("a", "a"), ("a", "b"))


class Oops(Exception):
    """An error of a guest's or of masters' own."""


def silent(rows, refused):
    """A guest who waits."""
    return None


def unheard(board, row):
    """Masters who wait."""
    return None


def says(*moves):
    """A guest who says these moves one behind another, told by how much stands there already."""
    def guest(rows, refused):
        done = sum(len(row) for row in rows) + len(refused)
        return moves[done] if done < len(moves) else None

    return guest


def says_new(hall, board, most):
    """A guest who says so many new words on a board."""
    words = many_words(600) + [word * 2 for word in many_words(600)]

    def guest(rows, refused):
        return (board, words[len(refused)]) if len(refused) < most else None

    return guest


def copier(hall, pairing):
    """A guest who says just what copied tells."""
    def guest(rows, refused):
        return copied(hall, pairing, rows)

    return guest


def eager(games, hall):
    """Masters who answer the first word that is let."""
    def masters(board, row):
        return next(iter(words_at(games[hall.boards[board][0]], row)), None)

    return masters


def clever(games, hall):
    """Masters who answer good words alone, the last ones."""
    def masters(board, row):
        words = good_words(games[hall.boards[board][0]], row)
        return words[-1] if words else None

    return masters


def later(masters, hall):
    """Masters who wait at rows of one word more than that with which the board begins, and of three."""
    def waiting(board, row):
        return None if len(row) - len(hall.boards[board][2]) in (1, 3) else masters(board, row)

    return waiting


class Led(Case):
    def test_nobody_moves(self):
        self.tells(((2,), []), led(H, {"g": GAME}, silent, unheard))

    def test_says_and_answers(self):
        def masters(board, row):
            return {(): "a", ("a",): "b"}.get(row)

        log = [("said", 0, "c", False), ("said", 0, "b", True), ("said", 1, "a", True), ("answered", 1, "b"),
               ("answered", 2, "a")]
        guest = says((0, "c"), (0, "b"), (1, "a"))
        self.tells(((0,), log), led(H, {"g": GAME}, guest, masters))

    def test_who_is_asked_and_when(self):
        asked = []
        hall = Hall((("g", 1, ()), ("g", 0, ()), ("g", 1, ("a",)), ("g", 1, ())))
        replies = {(0, ()): "a", (3, ()): "b", (1, ("a",)): "b", (0, ("a", "b")): "c", (3, ("b", "b")): None}

        def guest(rows, refused):
            asked.append(("guest", rows, refused))
            if rows == ((), (), ("a",), ()):
                return (1, "z") if not refused else (1, "a")
            if rows[0] == ("a",):
                return (0, "b")
            if rows[3] == ("b",):
                return (3, "b")
            return None

        def masters(board, row):
            asked.append((board, row))
            return replies.get((board, row))

        won, log = led(hall, {"g": GAME}, guest, masters)
        self.tells((3,), won)
        self.tells([
            ("said", 1, "z", False), ("said", 1, "a", True), ("answered", 0, "a"), ("answered", 1, "b"),
            ("answered", 3, "b"), ("said", 0, "b", True), ("said", 3, "b", True), ("answered", 0, "c")], log)
        refused = (("g", (), "z"),)
        self.tells([
            ("guest", ((), (), ("a",), ()), ()),
            ("guest", ((), (), ("a",), ()), refused),
            ("guest", ((), ("a",), ("a",), ()), refused),
            (0, ()), (1, ("a",)), (3, ()),
            ("guest", (("a",), ("a", "b"), ("a",), ("b",)), refused),
            ("guest", (("a", "b"), ("a", "b"), ("a",), ("b",)), refused),
            ("guest", (("a", "b"), ("a", "b"), ("a",), ("b", "b")), refused),
            (0, ("a", "b")), (3, ("b", "b")),
            ("guest", (("a", "b", "c"), ("a", "b"), ("a",), ("b", "b")), refused),
            (3, ("b", "b"))], asked)

    def test_refused_ascends(self):
        heard = []

        def guest(rows, refused):
            heard.append(refused)
            return ((1, "z"), (0, "y"), (1, "b"), (0, "a"), (0, "zz"), None)[len(heard) - 1]

        hall = Hall((("h", 0, ()), ("g", 0, ())))
        led(hall, {"g": ((),), "h": ((), ("zz",))}, guest, unheard)
        self.tells([(), (("g", (), "z"),), (("g", (), "z"), ("h", (), "y")),
                    (("g", (), "b"), ("g", (), "z"), ("h", (), "y")),
                    (("g", (), "b"), ("g", (), "z"), ("h", (), "a"), ("h", (), "y")),
                    (("g", (), "b"), ("g", (), "z"), ("h", (), "a"), ("h", (), "y"))], heard)

    def test_result_is_new(self):
        first, second = [led(H, {"g": GAME}, says((0, "c"), (0, "b")), unheard) for _ in range(2)]
        self.assertTrue(same(first, second))
        self.assertIsNot(first[1], second[1])

    def test_arguments_stay(self):
        games = {"g": GAME}
        led(H, games, says((0, "a")), eager(games, H))
        self.tells({"g": GAME}, games)

    def test_rows_of_sixty_words(self):
        hall, games = Hall((("g", 0, ()), ("g", 1, row_of(20)))), {"g": chain_of(60)}

        def guest(rows, refused):
            turn = [board for board in (0, 1) if len(rows[board]) % 2 == board]
            return (turn[0], "a") if turn and not refused else None

        won, log = led(hall, games, guest, eager(games, hall))
        self.tells((1,), won)
        self.tells((row_of(60), row_of(60)), log_rows(hall, log))
        self.assertEqual(log[-1], ("said", 0, "a", False))

    def test_large_halls(self):
        hall = joined(fresh_hall(12, 0), fresh_hall(0, 12))
        pairing = tuple((board, board + 12) for board in range(12))
        won, log = led(hall, {"g": GAME}, copier(hall, pairing), eager({"g": GAME}, hall))
        self.assertEqual(len(won), 12)
        self.assertIsNone(log_fault(hall, {"g": GAME}, log))

    def test_no_games(self):
        for games in (None, {}, {"g": ()}, {"g": [()]}, {"h": GAME}, {"g": GAME, "h": GAME}):
            self.raises("NoGames", {}, led, H, games, None, None)
        self.refuses_odd("NoGames", lambda thing: led(H, thing, silent, unheard), [{"g": ((),)}])

    def test_no_move(self):
        games = {"g": GAME}
        for given in (
                (), (0,), (0, "c", "d"), [0, "c"], {0: "c"}, "c", ("0", "c"), (3, "c"), (-1, "c"), (False, "c"),
                (True, "c"), (None, "c"), (0, ""), (0, "C"), (0, "c" * 21), (0, None), (0, b"c"), (0, ["c"]),
                (0, ("c",)), (2, "a"), ([], "c"), ((0, "c"),), False, 0):
            self.raises("NoMove", {}, led, H, games, lambda rows, refused: given, unheard)
            # Also behind other moves.
            self.raises("NoMove", {}, led, H, games, lambda rows, refused: given if refused else (1, "d"), unheard)
        for thing in odd_things():
            if thing is not None:
                self.raises("NoMove", {}, led, H, games, lambda rows, refused: thing, unheard)
            if not same(thing, 0) and not same(thing, 1):
                self.raises("NoMove", {}, led, H, games, lambda rows, refused: (thing, "c"), unheard)
            if not isinstance(thing, str):
                self.raises("NoMove", {}, led, H, games, lambda rows, refused: (0, thing), unheard)

    def test_numbers_do_not_count_from_the_end(self):
        hall = fresh_hall(1, 2)
        for board in (-1, -2, -3, 3):
            self.raises("NoMove", {}, led, hall, {"g": GAME}, lambda rows, refused: (board, "c"), unheard)
            turned_hall = fresh_hall(3, 0)
            self.raises("NoMove", {}, led, turned_hall, {"g": GAME}, lambda rows, refused: (board, "c"), unheard)

    def test_no_move_out_of_turn(self):
        self.raises("NoMove", {}, led, H, {"g": GAME}, says((0, "a"), (0, "b")), unheard)
        self.raises("NoMove", {}, led, H, {"g": GAME}, says((2, "a")), unheard)

    def test_words_are_not_said_again_where_they_were_refused(self):
        games = {"g": GAME}
        self.raises("NoMove", {}, led, H, games, lambda rows, refused: (0, "c"), unheard)
        # It is the row of the game that counts, not the board.
        self.raises("NoMove", {}, led, H, games, lambda rows, refused: (len(refused), "c"), unheard)
        self.raises("NoMove", {}, led, H, games, says((0, "c"), (1, "d"), (0, "d")), unheard)
        hall = Hall((("g", 0, ()), ("h", 0, ()), ("g", 1, ("a",))))
        log = [("said", 0, "c", False), ("said", 1, "c", False), ("said", 2, "c", False)]

        def guest(rows, refused):
            return (len(refused), "c") if len(refused) < 3 else None

        self.tells(((), log), led(hall, {"g": GAME, "h": GAME}, guest, unheard))

    def test_no_answer(self):
        games = {"g": GAME}
        for given in (False, "", "c", "A", "a" * 21, b"a", 0, (), ("a",), ["a"], (2, "a"), {}, "ab"):
            self.raises("NoAnswer", {}, led, H, games, silent, lambda board, row: given)
        for thing in odd_things():
            if thing is not None and thing not in ("a", "b"):
                self.raises("NoAnswer", {}, led, H, games, silent, lambda board, row: thing)
        # What is let at another row is not let here, and at a row of 60 words nothing is.
        self.raises("NoAnswer", {}, led, fresh_hall(1, 0), games, says((0, "b")), lambda board, row: "a")
        full = Hall((("g", 1, row_of(20)),))

        def more(rows, refused):
            return (0, "a") if len(rows[0]) % 2 else None

        self.raises("NoAnswer", {}, led, full, {"g": chain_of(60)}, more, lambda board, row: "a")

    def test_errors_in_their_order(self):
        # Who is asked first fails first.
        self.raises("NoMove", {}, led, H, {"g": GAME}, lambda rows, refused: 0, lambda board, row: 0)
        self.raises("NoAnswer", {}, led, H, {"g": GAME}, silent, lambda board, row: 0)

    def test_thousand_refused_words(self):
        hall = fresh_hall(1, 0)
        new = says_new(hall, 0, 1000)

        def guest(rows, refused):
            return new(rows, refused) or ((0, "a") if rows == ((),) else None)

        won, log = led(hall, {"g": GAME}, guest, unheard)
        self.assertEqual((won, len(log)), ((0,), 1001))

    def test_more_than_thousand_refused_words(self):
        hall, calls = fresh_hall(1, 0), []
        guest = says_new(hall, 0, 1002)

        def counted(rows, refused):
            calls.append(len(refused))
            return guest(rows, refused)

        games = {"g": ((),)}
        won, log = led(hall, games, says_new(hall, 0, 1000), unheard)
        self.assertEqual((won, len(log)), ((), 1000))
        self.raises("TooMany", {"most": 1000}, led, hall, games, counted, unheard)
        # As soon as there are more of them nobody is asked any more.
        self.assertEqual(calls, list(range(1001)))
        self.raises("TooMany", {"most": 1000}, led, hall, games, says_new(hall, 0, 1001), unheard)

    def test_errors_of_their_own_go_on(self):
        def fails(error):
            def asked(*told):
                raise error

            return asked

        for error in (Oops("x"), KeyError("x"), ValueError(), IndexError(), StopIteration(), errors.NotLet(),
                      errors.NoMove(), errors.NoWord(), errors.NothingDone(), AttributeError(), RecursionError()):
            for guest, masters in ((fails(error), unheard), (silent, fails(error))):
                with self.assertRaises(type(error)) as caught:
                    led(H, {"g": GAME}, guest, masters)
                self.assertIs(caught.exception, error)

    def test_by_chance(self):
        chance = random.Random(81)
        for turn in range(60):
            hall = chance_hall(chance)
            games = chance_games(chance, hall)
            guest = chance_guest(hall, turn)
            masters = chance_masters(games, hall, turn)
            won, log = led(hall, games, guest, masters)
            self.assertIsNone(log_fault(hall, games, log))
            rows = log_rows(hall, log)
            self.tells(tuple(at for at, row in enumerate(rows) if len(row) % 2 != hall.boards[at][1]), won)
            self.assertTrue(same((won, log), self.led_again(hall, games, guest, masters)))

    def led_again(self, hall, games, guest, masters):
        """The same, straight by what the document says, with a sitting."""
        sitting, answered = Sitting(hall, games), True
        while answered:
            while (move := guest(sitting.rows(), tuple(sitting.refused()))) is not None:
                sitting.say(*move)
            answered = False
            for board in sitting.won():
                word = masters(board, sitting.rows()[board])
                if word is not None:
                    sitting.answer(board, word)
                    answered = True
        return (sitting.won(), sitting.log())


def chance_guest(hall, seed):
    """A guest by chance, who gives the same for the same, and waits now and then."""
    def guest(rows, refused):
        chance = random.Random(f"{seed} {rows} {refused}")
        moves = [(board, word) for board in range(len(rows)) for word in "abc"
                 if len(rows[board]) % 2 == hall.boards[board][1]
                 and (hall.boards[board][0], rows[board], word) not in refused]
        return None if not moves or chance.random() < 0.2 else chance.choice(moves)

    return guest


class Copied(Case):
    def test_example(self):
        self.tells((0, "a"), copied(H, ((0, 2),), ((), (), ("a",))))

    def test_moves(self):
        self.assertIsNone(copied(H, (), ((), (), ("a",))))
        self.assertIsNone(copied(H, ((1, 2),), (("a",), (), ())))
        self.tells((1, "a"), copied(H, ((1, 2),), ((), (), ("a",))))
        self.assertIsNone(copied(H, ((0, 2),), ((), (), ())))
        self.assertIsNone(copied(H, ((0, 2),), (("a",), ("a",), ("a",))))
        self.tells((2, "c"), copied(H, ((0, 2),), (("a", "c"), (), ("a",))))
        # Not where the rows part, or where there is more than one word more.
        self.assertIsNone(copied(H, ((0, 2),), (("a", "c"), (), ("b",))))
        self.assertIsNone(copied(H, ((0, 2),), (("a", "b", "c"), (), ("a",))))
        self.assertIsNone(copied(H, ((0, 2),), ((), (), ("a", "b"))))
        self.assertIsNone(copied(H, ((0, 2),), ((), (), ("a", "b", "c"))))

    def test_only_where_the_guest_is_to_move(self):
        # At the board 2 a master is to move at (), so that what the guest said on the other one is not copied.
        self.assertIsNone(copied(H, ((0, 2),), (("a",), (), ())))
        self.tells((2, "b"), copied(H, ((0, 2),), (("a", "b"), ("c",), ("a",))))

    def test_least_board(self):
        hall = fresh_hall(2, 2)
        self.tells((0, "b"), copied(hall, ((0, 3), (1, 2)), ((), (), ("a",), ("b",))))
        self.tells((0, "a"), copied(hall, ((0, 2), (1, 3)), ((), (), ("a",), ("b",))))
        self.tells((1, "b"), copied(hall, ((0, 2), (1, 3)), (("a",), (), ("a",), ("b",))))
        self.tells((1, "b"), copied(hall, ((1, 3),), ((), (), ("a",), ("b",))))
        self.tells((0, "b"), copied(hall, ((0, 3), (1, 2)), ((), ("x", "y"), ("x",), ("b",))))
        self.tells((2, "y"), copied(hall, ((0, 3), (1, 2)), ((), ("x", "y"), ("x",), ())))
        mixed = Hall((("g", 1, ()), ("g", 0, ())))
        self.tells((0, "b"), copied(mixed, ((0, 1),), (("a",), ("a", "b"))))

    def test_begun_boards(self):
        hall = Hall((("g", 0, ()), ("g", 1, ("a",))))
        self.tells((0, "a"), copied(hall, ((0, 1),), ((), ("a",))))
        self.assertIsNone(copied(hall, ((0, 1),), (("a",), ("a",))))
        self.assertIsNone(copied(hall, ((0, 1),), ((), ("a", "b"))))

    def test_rows_of_sixty_words(self):
        hall = fresh_hall(1, 1)
        self.tells((1, "a"), copied(hall, ((0, 1),), (row_of(60), row_of(59))))
        self.raises("NoRows", {}, copied, hall, ((0, 1),), (row_of(61), row_of(60)))

    def test_large_halls(self):
        hall = joined(fresh_hall(12, 0), fresh_hall(0, 12))
        self.tells((3, "z"), copied(hall, ((3, 23),), ((),) * 23 + (("z",),)))

    def test_errors(self):
        rows = ((), (), ())
        for pairing in (None, [(0, 2)], ((2, 0),), ((0, 1),), ((0, 2), (1, 2)), ((1, 2), (0, 2)), ((0, 3),), (0, 2),
                        ((False, 2),), ([0, 2],), ((0, 2, 2),)):
            self.raises("NoPairing", {}, copied, H, pairing, rows)
            self.raises("NoPairing", {}, copied, H, pairing, None)
        for wrong in (None, [(), (), ()], ((), ()), ((), (), (), ()), ((), (), []), ((), (), "a"), ((), (), ("A",)),
                      ((), (), ("",)), ((), (), row_of(61)), ((), (), (1,)), ((), None, ()), ((), (), (("a",),))):
            self.raises("NoRows", {}, copied, H, ((0, 2),), wrong)
        self.refuses_odd("NoPairing", lambda thing: copied(H, thing, rows), [()])
        self.refuses_odd("NoRows", lambda thing: copied(H, (), thing))
        self.refuses_odd("NoRows", lambda thing: copied(H, (), ((), (), thing)), [(), ("a",), ("all",)])

    def test_rows_begin_as_the_boards_do(self):
        hall = Hall((("g", 0, ("a",)), ("h", 0, ())))
        self.assertIsNone(copied(hall, (), (("a",), ())))
        self.assertIsNone(copied(hall, (), (("a", "b"), ("a",))))
        for wrong in (((), ()), (("b",), ()), (("b", "a"), ()), (("aa",), ()), (("aa", "a"), ())):
            self.raises("NoRows", {}, copied, hall, (), wrong)

    def test_arguments_stay(self):
        pairing, rows = ((0, 2),), ((), (), ("a",))
        before = copy.deepcopy((pairing, rows))
        copied(H, pairing, rows)
        self.assertEqual((pairing, rows), before)


class ThirdFact(Case):
    def check(self, hall, games, pairing, masters):
        """Checks that who copies wins just one board of each pair; tells which ones."""
        self.assertTrue(is_pairing(hall, pairing))
        won, log = led(hall, games, copier(hall, pairing), masters)
        for one, other in pairing:
            self.assertNotEqual(one in won, other in won, (hall.boards, games, pairing, log))
        return [one in won for one, _ in pairing]

    def test_one_board_of_each_pair_is_won(self):
        chance = random.Random(82)
        told = {True: 0, False: 0}
        for turn in range(150):
            hall = chance_hall(chance, 7, chance.choice(("g", "gh")), BEGUN[:chance.randint(1, 5)])
            games = chance_games(chance, hall, "ab", 7, 0.8)
            kinds = [eager(games, hall), clever(games, hall), unheard, chance_masters(games, hall, turn),
                     chance_masters(games, hall, turn, 0), later(eager(games, hall), hall)]
            for pairing in chance.sample(pairings(hall), min(3, len(pairings(hall)))):
                for masters in kinds:
                    for first in self.check(hall, games, pairing, masters):
                        told[first] += 1
        self.assertGreater(min(told.values()), 200)

    def test_all_pairings_of_a_hall(self):
        hall = Hall((("g", 0, ()), ("g", 1, ("a",)), ("g", 0, ()), ("g", 1, ()), ("g", 0, ("a", "b"))))
        games = {"g": ((), ("a",), ("a", "b"), ("a", "b", "a"), ("a", "c"), ("b",), ("b", "a"), ("b", "a", "b"))}
        for pairing in all_pairings(pairs(hall)):
            for turn in range(20):
                self.check(hall, games, pairing, chance_masters(games, hall, turn, 0.2))


if __name__ == "__main__":
    unittest.main()
