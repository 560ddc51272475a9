"""9.1 and 9.2: foes, and guests that are led against one."""

import random
import unittest

from tests.helpers import (
    Case, chance_aim, chance_hall, fresh_hall, many_pairings, many_words, odd_things, reaches, same, words_at)
from tests.test_games import row_of
from tests.test_playing import BEGUN, Oops, chance_guest, copier, says_new, silent
from untoldgames import errors
from untoldgames.foes import Foe, led_by_foe
from untoldgames.halls import Hall, are_games, joined, least_games
from untoldgames.logs import heard_games, log_fault, log_rows
from untoldgames.pairs import pairings, pairs
from untoldgames.playing import copied
from untoldgames.sittings import Sitting
from untoldgames.verdicts import sure

H = Hall((("g", 0, ()), ("g", 0, ()), ("g", 1, ())))
F = ("some", (("all", (0, 1)), 2))
BOTH = fresh_hall(1, 1)
NEVER = ("some", ())


def seen(foe):
    """All that a foe tells."""
    return (foe.rows(), foe.turns(), foe.refused(), foe.log(), foe.won(), foe.closed(), foe.games())


def known_moves(foe, hall):
    """The moves on boards where the guest is to move that a foe surely lets."""
    games, rows, turns = foe.games(), foe.rows(), foe.turns()
    return [(board, word) for board, (name, _, _) in enumerate(hall.boards) if turns[board]
            for word in words_at(games[name], rows[board])]


def wide_hall(chance, most, begun=BEGUN, names="gh"):
    """A hall by chance of at most so many boards, 24 at most."""
    boards = tuple((chance.choice(names), chance.randrange(2), chance.choice(begun))
                   for _ in range(chance.randint(2, most)))
    return Hall(boards) if len(boards) <= 12 else joined(Hall(boards[:12]), Hall(boards[12:]))


def missed_aim(chance, hall):
    """An aim by chance that is not sure, but hardly so."""
    many = len(hall.boards)
    while True:
        parts = tuple(chance_aim(chance, many, 2) if chance.random() < 0.3 else board for board in range(many))
        aim = ("least", chance.randint(1, many // 2 + 1), parts[:24])
        aim = chance.choice((aim, aim, chance_aim(chance, many)))
        if sure(hall, aim) is None:
            return aim


class FoeCase(Case):
    def check(self, hall, foe):
        """Checks what holds of a foe at every moment."""
        games, log, rows = foe.games(), foe.log(), foe.rows()
        self.assertTrue(are_games(hall, games))
        self.assertIsNone(log_fault(hall, games, log))
        self.assertIsNotNone(heard_games(hall, log))
        self.tells(log_rows(hall, log), rows)
        self.assertLessEqual(max(len(row) for row in rows), 60)
        # All that a sitting with these games would tell is told.
        sitting = Sitting(hall, games)
        for item in log:
            if item[0] == "said":
                self.assertIs(sitting.say(item[1], item[2]), item[3])
            else:
                sitting.answer(item[1], item[2])
        self.tells((sitting.rows(), sitting.turns(), sitting.refused(), sitting.log(), sitting.won()),
                   (rows, foe.turns(), foe.refused(), log, foe.won()))

    def check_closed(self, hall, aim, foe):
        self.assertIs(foe.closed(), True)
        self.check(hall, foe)
        self.assertFalse(reaches(aim, foe.won()), (hall.boards, aim, foe.log()))

    def check_wait(self, hall, foe):
        """Lets the guest wait, and checks what is answered; tells it."""
        log, won = foe.log(), foe.won()
        answers = foe.wait()
        self.assertIs(type(answers), list)
        self.assertEqual(answers, sorted(answers))
        boards = [board for board, _ in answers]
        self.assertEqual(len(boards), len(set(boards)))
        self.assertTrue(set(boards) <= set(won))
        self.tells(log + [("answered", board, word) for board, word in answers], foe.log())
        self.assertIs(foe.closed(), answers == [])
        return answers


class Start(FoeCase):
    def test_start(self):
        hall = Hall((("g", 1, ()), ("h", 0, ("a", "b")), ("h", 0, ("a",))))
        foe = Foe(hall, ("all", (0, 1)))
        self.tells(((), ("a", "b"), ("a",)), foe.rows())
        self.tells((False, True, False), foe.turns())
        self.tells([], foe.refused())
        self.tells([], foe.log())
        self.tells((0, 2), foe.won())
        self.assertIs(foe.closed(), False)
        self.check(hall, foe)
        self.raises("NothingDone", {}, foe.back)

    def test_errors(self):
        self.refuses_odd("NoAim", lambda thing: Foe(H, thing), (0, 1, 2))
        self.raises("NoAim", {}, Foe, H, 3)
        crowd = joined(fresh_hall(12, 0), fresh_hall(0, 12))
        more = joined(crowd, fresh_hall(1, 0))
        for function in (Foe, lambda hall, aim: led_by_foe(hall, aim, None)):
            self.raises("NoAim", {}, function, more, 25)
            self.raises("TooMany", {"most": 24}, function, more, NEVER)
            self.raises("TooMany", {"most": 24}, function, more, ("all", ()))
            self.raises("TooMany", {"most": 2000}, function, crowd, NEVER)
            self.raises("TooMany", {"most": 2000}, function, many_pairings(2001), ("all", ()))
            self.raises("NotSpoiled", {}, function, H, ("some", (0, 2)))
            self.raises("NotSpoiled", {}, function, H, ("all", ()))
        self.refuses_odd("NoAim", lambda thing: led_by_foe(H, thing, silent), (0, 1, 2))
        self.assertIs(Foe(many_pairings(2000), NEVER).closed(), False)

    def test_equal_to_nothing_else(self):
        foe = Foe(H, F)
        for thing in odd_things():
            self.assertFalse(foe == thing)


class Say(FoeCase):
    def test_new_words_and_words_that_are_known(self):
        foe = Foe(H, F)
        for word in ("a", "b", "z" * 20):
            first = foe.say(0, word)
            self.assertIs(type(first), bool)
            if not first:
                # What was refused is refused again, on all boards of the name.
                self.assertIs(foe.say(0, word), False)
                self.assertIs(foe.say(1, word), False)
                self.check(H, foe)

    def test_words_of_begun_rows_are_let(self):
        hall = Hall((("g", 0, ()), ("g", 0, ("a", "b")), ("g", 1, ("a", "b"))))
        foe = Foe(hall, ("all", (0, 1, 2)))
        self.assertIs(foe.say(0, "a"), True)
        self.tells((("a",), ("a", "b"), ("a", "b")), foe.rows())
        self.tells((0, 2), foe.won())
        self.check(hall, foe)

    def test_words_that_were_answered_are_let(self):
        foe = Foe(BOTH, ("all", (0, 1)))
        # The master at the board 1 may wait, as nothing is reached by the board 1 alone.
        if foe.wait() == []:
            self.tells((1,), foe.won())
        foe = Foe(BOTH, 1)
        answers = self.check_wait(BOTH, foe)
        self.assertEqual([board for board, _ in answers], [1])
        self.assertIs(foe.say(0, answers[0][1]), True)
        self.check(BOTH, foe)

    def test_errors_in_their_order(self):
        hall = Hall((("g", 0, ()), ("g", 1, ())))
        foe = Foe(hall, NEVER)
        foe.say(0, "a")
        foe.back()
        before = seen(foe)
        for board in (2, -1, True, False, None, "0", (0,), 10 ** 59):
            self.raises("NoBoard", {}, foe.say, board, None)
        for word in ("", "A", "a" * 21, "a b", b"a", None, 0, ("a",), ["a"]):
            self.raises("NoWord", {}, foe.say, 0, word)
            self.raises("NoWord", {}, foe.say, 1, word)
        self.raises("NotTurn", {}, foe.say, 1, "a")
        self.refuses_odd("NoBoard", lambda thing: foe.say(thing, None), (0, 1))
        self.refuses_odd("NoWord", lambda thing: foe.say(0, thing), ("a", "b", "g", "ab", "all"))
        self.assertEqual(seen(foe), before)
        self.raises("NothingDone", {}, foe.back)
        self.assertEqual(foe.wait(), [])
        before = seen(foe)
        for board, word in ((0, "a"), (2, "a"), (None, None), (0, None), (1, "a")):
            self.raises("Over", {}, foe.say, board, word)
        self.raises("Over", {}, foe.wait)
        self.assertEqual(seen(foe), before)
        foe.back()
        self.assertIs(foe.closed(), False)

    def test_what_is_returned_is_new(self):
        foe = Foe(H, F)
        foe.say(0, "a")
        before = seen(foe)
        foe.log().clear()
        foe.refused().clear()
        foe.games().clear()
        self.assertEqual(seen(foe), before)
        foe.wait().clear()
        self.assertEqual(foe.log()[0], before[3][0])

    def test_arguments_stay(self):
        boards = H.boards
        foe = Foe(H, F)
        foe.say(0, "a")
        foe.wait()
        self.tells((("g", 0, ()), ("g", 0, ()), ("g", 1, ())), boards)
        self.assertEqual(F, ("some", (("all", (0, 1)), 2)))

    def test_answers_are_not_what_was_refused(self):
        # A guest who tries many words first, so that an answer must be another one.
        foe = Foe(BOTH, 1)
        words = [chr(97 + at) for at in range(26)] + many_words(40) + ["z" * 20]
        for word in words:
            self.assertIs(foe.say(0, word), False)
        answers = self.check_wait(BOTH, foe)
        self.assertEqual(len(answers), 1)
        self.assertNotIn(answers[0][1], words)
        self.check(BOTH, foe)


class Wait(FoeCase):
    def test_an_aim_that_is_missed_already(self):
        foe = Foe(H, F)
        while foe.wait():
            pass
        self.check_closed(H, F, foe)

    def test_copying_from_both(self):
        # The hall of the example: who copies between 0 and 2 gives up 1, and the other way round.
        for pairing in pairings(H):
            won, log, games = led_by_foe(H, F, copier(H, pairing))
            self.assertFalse(reaches(F, won))
            self.assertIsNone(log_fault(H, games, log))

    def test_aims_that_are_never_reached(self):
        for hall in (H, BOTH, fresh_hall(3, 3), fresh_hall(1, 0), fresh_hall(0, 1)):
            foe = Foe(hall, NEVER)
            while foe.wait():
                pass
            self.check_closed(hall, NEVER, foe)

    def test_boards_of_one_side_alone(self):
        for hall in (fresh_hall(3, 0), fresh_hall(0, 3), Hall((("g", 0, ("a",)), ("g", 1, ("a", "a"))))):
            aim = ("some", tuple(range(len(hall.boards))))
            foe = Foe(hall, aim)
            while self.check_wait(hall, foe):
                pass
            self.tells((), foe.won())
            self.check_closed(hall, aim, foe)

    def test_rows_of_many_words(self):
        # 24 rows of 20 words, all unlike, and so 481 rows ahead of all answers.
        boards = tuple(("g", 1, (word,) + row_of(19)) for word in many_words(24))
        hall = joined(Hall(boards[:12]), Hall(boards[12:]))
        aim = ("some", tuple(range(24)))
        foe = Foe(hall, aim)
        for _ in range(116):
            if foe.closed():
                break
            foe.wait()
        self.check_closed(hall, aim, foe)


class Bounds(FoeCase):
    """Guests of many kinds, all of whom miss the aim in time."""

    def play(self, chance, hall, aim, moves):
        """Leads a guest that is told by a generator of its moves between two waitings."""
        foe, waits = Foe(hall, aim), 0
        while not foe.closed():
            moves(chance, hall, aim, foe)
            self.check_wait(hall, foe)
            waits += 1
            self.assertLessEqual(waits, 4 * len(hall.boards) + 20)
            if chance.random() < 0.2:
                self.check(hall, foe)
        self.check_closed(hall, aim, foe)

    def all_it_can(self, chance, hall, aim, foe):
        while moves := known_moves(foe, hall):
            self.assertIs(foe.say(*chance.choice(moves)), True)

    def just_enough(self, chance, hall, aim, foe):
        while not reaches(aim, foe.won()) and (moves := known_moves(foe, hall)):
            self.assertIs(foe.say(*chance.choice(moves)), True)

    def shallow_first(self, chance, hall, aim, foe):
        while not reaches(aim, foe.won()) and (moves := known_moves(foe, hall)):
            least = min(len(foe.rows()[board]) for board, _ in moves)
            foe.say(*chance.choice([move for move in moves if len(foe.rows()[move[0]]) == least]))

    def deep_first(self, chance, hall, aim, foe):
        while not reaches(aim, foe.won()) and (moves := known_moves(foe, hall)):
            most = max(len(foe.rows()[board]) for board, _ in moves)
            foe.say(*chance.choice([move for move in moves if len(foe.rows()[move[0]]) == most]))

    def babbling(self, chance, hall, aim, foe):
        for _ in range(chance.randrange(30)):
            turns = [board for board, turn in enumerate(foe.turns()) if turn]
            moves = known_moves(foe, hall)
            if moves and chance.random() < 0.4:
                foe.say(*chance.choice(moves))
            elif turns:
                foe.say(chance.choice(turns), chance.choice("abcdefgh"))

    def waiting(self, chance, hall, aim, foe):
        return None

    def test_guests(self):
        chance = random.Random(91)
        kinds = (self.all_it_can, self.just_enough, self.shallow_first, self.deep_first, self.babbling, self.waiting)
        for _ in range(60):
            hall = wide_hall(chance, chance.choice((5, 8, 11)), BEGUN[:chance.randint(1, 5)])
            aim = missed_aim(chance, hall)
            for kind in kinds:
                self.play(chance, hall, aim, kind)

    def test_a_guest_who_takes_to_other_pairs_later(self):
        # What spoils the pairing of 0 and 2 does not spoil that of 1 and 2, which is joined in later on.
        hall = Hall((("g", 0, ()), ("g", 0, ()), ("g", 1, ()), ("h", 1, ()), ("h", 0, ()), ("i", 1, ()), ("i", 0, ())))
        aim = ("some", (("all", (3, 5)), ("all", (4, 5, ("some", (1, 2))))))
        for late in range(6):
            for pairing in pairings(hall):
                for first in (pairing[1:], pairing[:1], ()):
                    foe, waits = Foe(hall, aim), 0
                    while not foe.closed():
                        move = copied(hall, pairing if waits >= late else first, foe.rows())
                        if move is None:
                            foe.wait()
                            waits += 1
                            self.assertLessEqual(waits, 4 * 7 + 20)
                        else:
                            self.assertIs(foe.say(*move), True)
                    self.check_closed(hall, aim, foe)

    def test_large_halls(self):
        chance = random.Random(92)
        # Eight names of two boards against one, and of boards that begin far apart.
        hall = joined(Hall(tuple((name, side, ()) for name in "abcd" for side in (0, 0, 1))),
                      Hall(tuple((name, side, row_of(20)) for name in "efgh" for side in (0, 1, 1))))
        aim = ("least", 9, tuple(range(24)))
        for kind in (self.all_it_can, self.just_enough, self.shallow_first, self.deep_first):
            self.play(chance, hall, aim, kind)
        hall = many_pairings(2000)
        aim = ("least", 6, tuple(range(19)))
        for kind in (self.all_it_can, self.just_enough, self.shallow_first):
            self.play(chance, hall, aim, kind)

    def test_every_guest_of_small_halls(self):
        """All that a guest can do with words that are let, in all orders, is gone through by back."""
        longest = 0
        for hall, aim in (
                (H, F), (H, ("least", 2, (0, 1, 2))), (H, 2), (BOTH, 0), (BOTH, 1), (BOTH, ("all", (0, 1))),
                (Hall((("g", 0, ()), ("g", 1, ("a",)), ("g", 1, ()))), ("least", 2, (0, 1, 2))),
                (Hall((("g", 0, ()), ("g", 1, ("a",)), ("g", 1, ("a",)))), ("some", (0, ("all", (1, 2))))),
                (Hall((("g", 1, ()), ("g", 0, ("a",)), ("g", 1, ("a", "b")))), ("some", (0, 1))),
                (Hall((("g", 0, ()), ("g", 0, ("a", "b")), ("g", 1, ("a",)))), ("some", (("all", (0, 1)), 2))),
                (Hall((("g", 0, ()), ("g", 1, ()), ("h", 0, ()), ("h", 1, ()))), ("some", (("all", (0, 2)), 1)))):
            self.assertIsNone(sure(hall, aim))
            longest = max(longest, self.explore(hall, aim, Foe(hall, aim), 0))
        self.assertGreater(longest, 2)

    def explore(self, hall, aim, foe, waits):
        if foe.closed():
            self.check_closed(hall, aim, foe)
            return waits
        self.assertLess(waits, 4 * len(hall.boards) + 20)
        before = seen(foe)
        foe.wait()
        longest = self.explore(hall, aim, foe, waits + 1)
        foe.back()
        self.assertEqual(seen(foe), before)
        for move in known_moves(foe, hall):
            self.assertIs(foe.say(*move), True)
            longest = max(longest, self.explore(hall, aim, foe, waits))
            foe.back()
            self.assertEqual(seen(foe), before)
        return longest


class SameAgain(FoeCase):
    def test_words_stay_refused_and_let(self):
        chance = random.Random(93)
        for _ in range(40):
            hall = wide_hall(chance, 7)
            foe, told = Foe(hall, missed_aim(chance, hall)), {}
            for name, game in least_games(hall).items():
                told.update({(name, row): True for row in game})
            while not foe.closed():
                for _ in range(chance.randrange(40)):
                    turns = [board for board, turn in enumerate(foe.turns()) if turn]
                    if not turns:
                        break
                    board = chance.choice(turns)
                    moves = [move for move in known_moves(foe, hall) if move[0] == board]
                    word = chance.choice(moves)[1] if moves and chance.random() < 0.5 else chance.choice("abcde")
                    key = (hall.boards[board][0], foe.rows()[board] + (word,))
                    flag = foe.say(board, word)
                    self.assertIs(flag, told.setdefault(key, flag), (hall.boards, key))
                for board, word in foe.wait():
                    key = (hall.boards[board][0], foe.rows()[board])
                    self.assertIs(told.setdefault(key, True), True)
                self.check(hall, foe)

    def test_equal_calls_give_equal_answers(self):
        chance = random.Random(94)
        for turn in range(30):
            hall = wide_hall(chance, 6)
            aim = missed_aim(chance, hall)
            guest = foe_guest(hall, turn)
            first, second = led_by_foe(hall, aim, guest), led_by_foe(hall, aim, guest)
            self.assertTrue(same(first, second))


class Back(FoeCase):
    def test_behind_a_say(self):
        hall = Hall((("g", 0, ()), ("g", 0, ("a",)), ("g", 1, ("a", "a"))))
        foe = Foe(hall, ("all", (0, 1)))
        steps = [seen(foe)]
        for word, flag in (("b", False), ("b", False), ("c", False), ("a", True)):
            self.assertIs(foe.say(0, word), flag)
            steps.append(seen(foe))
        self.tells([("g", (), "b"), ("g", (), "c")], foe.refused())
        for step in steps[-2::-1]:
            self.assertIsNone(foe.back())
            self.assertEqual(seen(foe), step)
        self.raises("NothingDone", {}, foe.back)
        self.assertEqual(seen(foe), steps[0])

    def test_behind_waits(self):
        foe = Foe(H, F)
        steps = [seen(foe)]
        while not foe.closed():
            foe.wait()
            steps.append(seen(foe))
        self.assertGreater(len(steps), 2)
        for step in steps[-2::-1]:
            self.assertIsNone(foe.back())
            self.assertEqual(seen(foe), step)
        self.raises("NothingDone", {}, foe.back)

    def test_several_answers_are_one_step(self):
        hall = fresh_hall(0, 3)
        foe = Foe(hall, ("some", (0, 1, 2)))
        before = seen(foe)
        self.assertEqual(len(foe.wait()), 3)
        self.assertEqual(len(foe.log()), 3)
        foe.back()
        self.assertEqual(seen(foe), before)
        self.raises("NothingDone", {}, foe.back)

    def test_it_goes_on_behind_the_wait_that_closed_it(self):
        foe = Foe(BOTH, NEVER)
        while foe.wait():
            pass
        self.raises("Over", {}, foe.say, 0, "a")
        foe.back()
        self.assertIs(foe.closed(), False)
        turn = foe.turns().index(True)
        self.assertIs(type(foe.say(turn, "a")), bool)
        while foe.wait():
            pass
        self.check_closed(BOTH, NEVER, foe)

    def test_another_way_behind_back(self):
        chance = random.Random(95)
        for _ in range(40):
            hall = wide_hall(chance, 7)
            aim = missed_aim(chance, hall)
            foe, steps = Foe(hall, aim), []
            for _ in range(120):
                before = seen(foe)
                if foe.closed() or steps and chance.random() < 0.3:
                    foe.back()
                    self.assertEqual(seen(foe), steps.pop())
                    continue
                moves = known_moves(foe, hall)
                turns = [board for board, turn in enumerate(foe.turns()) if turn]
                if moves and chance.random() < 0.5:
                    foe.say(*chance.choice(moves))
                elif turns and chance.random() < 0.5:
                    foe.say(chance.choice(turns), chance.choice("abc"))
                else:
                    foe.wait()
                steps.append(before)
            self.check(hall, foe)
            waits = 0
            while not foe.closed():
                foe.wait()
                waits += 1
                self.assertLessEqual(waits, 4 * len(hall.boards) + 20)
            self.check_closed(hall, aim, foe)
            for step in steps[::-1]:
                while seen(foe) != step:
                    foe.back()


def foe_guest(hall, seed):
    """A guest by chance, who copies what stands anywhere, or tries a word, or waits."""
    def guest(rows, refused):
        chance = random.Random(f"{seed} {rows} {refused}")
        moves = []
        for at, (name, side, _) in enumerate(hall.boards):
            row = rows[at]
            if len(row) % 2 != side:
                continue
            words = {other[len(row)] for board, other in zip(hall.boards, rows)
                     if board[0] == name and len(other) > len(row) and other[:len(row)] == row} | {"q"}
            moves += [(at, word) for word in sorted(words) if (name, row, word) not in refused]
        return chance.choice(moves) if moves and chance.random() < 0.8 else None

    return guest


class LedByFoe(FoeCase):
    def check_led(self, hall, aim, guest):
        won, log, games = led_by_foe(hall, aim, guest)
        self.assertIs(type(log), list)
        self.assertTrue(are_games(hall, games))
        self.assertIsNone(log_fault(hall, games, log))
        rows = log_rows(hall, log)
        self.tells(tuple(at for at, row in enumerate(rows) if len(row) % 2 != hall.boards[at][1]), won)
        self.assertFalse(reaches(aim, won))
        return won

    def test_guests(self):
        chance = random.Random(96)
        for turn in range(80):
            hall = chance_hall(chance, 7, chance.choice(("g", "gh")), BEGUN)
            aim = missed_aim(chance, hall)
            self.check_led(hall, aim, silent)
            self.check_led(hall, aim, chance_guest(hall, turn))
            self.check_led(hall, aim, foe_guest(hall, turn))
            for pairing in pairings(hall)[:4]:
                won = self.check_led(hall, aim, copier(hall, pairing))
                # Also here who copies wins just one board of each pair.
                for one, other in pairing:
                    self.assertNotEqual(one in won, other in won)

    def test_there_is_a_guest_for_whom_the_aim_is_hardly_missed(self):
        # One board less would be sure: who copies wins it.
        hall = fresh_hall(2, 2)
        won = self.check_led(hall, ("least", 3, (0, 1, 2, 3)), copier(hall, pairings(hall)[0]))
        self.assertEqual(len(won), 2)
        self.assertEqual(pairs(hall), [(0, 2), (0, 3), (1, 2), (1, 3)])

    def test_how_the_guest_is_asked(self):
        heard = []

        def guest(rows, refused):
            heard.append((rows, refused))
            return (0, "q") if not refused else None

        won, log, _ = led_by_foe(BOTH, 1, guest)
        self.tells((((), ()), ()), heard[0])
        if ("said", 0, "q", False) in log:
            self.tells((((), ()), (("g", (), "q"),)), heard[1])
        self.assertEqual(won, ())

    def test_no_move(self):
        for thing in odd_things():
            if thing is not None:
                self.raises("NoMove", {}, led_by_foe, H, F, lambda rows, refused: thing)
        for given in ((2, "a"), (3, "a"), (0, ""), (False, "a"), [0, "a"], (0, "a", 1)):
            self.raises("NoMove", {}, led_by_foe, H, F, lambda rows, refused: given)
        # A word that was refused already at this row.
        alone = fresh_hall(2, 0)
        self.raises("NoMove", {}, led_by_foe, alone, 0, lambda rows, refused: (0, "a"))
        self.raises("NoMove", {}, led_by_foe, alone, 0, lambda rows, refused: (len(refused) % 2, "a"))

    def test_refused_words(self):
        hall = fresh_hall(1, 0)
        won, log, games = led_by_foe(hall, 0, says_new(hall, 0, 1000))
        self.assertFalse(reaches(0, won))
        self.assertIsNone(log_fault(hall, games, log))
        self.raises("TooMany", {"most": 1000}, led_by_foe, hall, 0, says_new(hall, 0, 1001))

    def test_errors_of_its_own_go_on(self):
        for error in (Oops("x"), KeyError("x"), errors.Over(), errors.NoMove(), ValueError(), StopIteration()):
            def fails(rows, refused):
                raise error

            with self.assertRaises(type(error)) as caught:
                led_by_foe(H, F, fails)
            self.assertIs(caught.exception, error)


if __name__ == "__main__":
    unittest.main()
