"""15.1: rooms."""

import random
import unittest

from tests.helpers import Case, all_pairings, chance_aim, fresh_hall, odd_things, outcomes, reaches, same
from untoldgames.halls import Hall
from untoldgames.pairs import pairs
from untoldgames.rooms import Room
from untoldgames.verdicts import is_sure, sure

NO_NAMES = ("", "A", "g ", "a" * 9, b"g", None, 0, True, ("g",), ["g"], {"g": 0})
NO_WORDS = ("", "A", "a" * 21, "a b", b"a", None, 0, ("a",), ["a"], {"a": 1})
NO_SIDES = (2, -1, True, False, None, "0", (0,), [0], 10 ** 59)


class Oops(Exception):
    """An error of an action's own."""


def seen(room):
    """All that a room tells."""
    hall = room.hall()
    return (room.numbers(), None if hall is None else hall.boards, room.pairs(), room.depth())


def drawn(room):
    """All that a copy of a room tells, taken back step by step, and what number it gives then."""
    other = room.copy()
    told = []
    while True:
        told.append(seen(other))
        told.append(other.trying(lambda tried: tried.put("z", 0) if len(tried.numbers()) < 12 else None))
        if other.depth() == 0:
            return told
        other.back()


def room_of(boards, gap=1):
    """A room with boards under the numbers gap - 1, 2 * gap - 1 and so on."""
    room = Room()
    for name, side, row in boards:
        for _ in range(gap - 1):
            room.shut(room.put("z", 0))
        number = room.put(name, side)
        for word in row:
            room.play(number, word)
    return room


class Model:
    """A room straight by what the document says, which works all out from what was done."""

    def __init__(self):
        self.done = []

    def state(self):
        boards, given = {}, 0
        for kind, *rest in self.done:
            if kind == "put":
                boards[given] = (rest[0], rest[1], ())
                given += 1
            elif kind == "shut":
                del boards[rest[0]]
            elif kind == "exchange":
                name, side, row = boards[rest[0]]
                boards[rest[0]] = (name, 1 - side, row)
            else:
                name, side, row = boards[rest[0]]
                boards[rest[0]] = (name, side, row + (rest[1],))
        return boards, given

    def seen(self):
        boards, _ = self.state()
        numbers = sorted(boards)
        hall = Hall(tuple(boards[number] for number in numbers)) if boards else None
        couples = [(numbers[one], numbers[other]) for one, other in pairs(hall)] if boards else []
        return (tuple(numbers), None if hall is None else hall.boards, couples, len(self.done))


class Start(Case):
    def test_start(self):
        room = Room()
        self.tells((), room.numbers())
        self.assertIsNone(room.hall())
        self.tells([], room.pairs())
        self.tells(0, room.depth())
        self.raises("NothingDone", {}, room.back)
        self.raises("NoBoard", {}, room.shut, 0)

    def test_sure_without_boards(self):
        room = Room()
        self.tells((), room.sure(("all", ())))
        self.tells((), room.sure(("least", 0, (("some", ()),))))
        self.assertIsNone(room.sure(("some", ())))
        self.assertIsNone(room.sure(("least", 1, ())))
        self.raises("NoAim", {}, room.sure, 0)
        self.raises("NoAim", {}, room.sure, ("some", (("all", ()), 0)))

    def test_equal_to_nothing_else(self):
        room = Room()
        for thing in odd_things() + [Room()]:
            self.assertFalse(room == thing)
        self.assertTrue(room == room)


class Put(Case):
    def test_numbers(self):
        room = Room()
        self.tells(0, room.put("g", 0))
        self.tells(1, room.put("abcdefgh", 1))
        self.tells(2, room.put("g", 1))
        self.tells((0, 1, 2), room.numbers())
        self.tells((("g", 0, ()), ("abcdefgh", 1, ()), ("g", 1, ())), room.hall().boards)
        self.assertIs(type(room.hall()), Hall)
        self.tells([(0, 2)], room.pairs())
        self.tells(3, room.depth())

    def test_numbers_of_boards_that_were_shut(self):
        room = Room()
        room.put("g", 0)
        room.put("g", 1)
        room.shut(1)
        self.tells(2, room.put("h", 0))
        room.shut(0)
        room.shut(2)
        self.tells((), room.numbers())
        self.assertIsNone(room.hall())
        self.tells(3, room.put("h", 0))
        self.tells((3,), room.numbers())

    def test_the_number_of_a_put_that_was_taken_back_is_given_again(self):
        room = Room()
        room.put("g", 0)
        room.put("g", 1)
        room.back()
        self.tells(1, room.put("h", 1))
        room.shut(1)
        self.tells(2, room.put("h", 0))
        room.back()
        room.back()
        self.tells((0, 1), room.numbers())
        # The number 1 belongs to a board again, the number 2 to none.
        self.tells(2, room.put("i", 0))
        room.back()
        room.back()
        self.tells(1, room.put("i", 0))

    def test_twelve_boards_and_one_more(self):
        room = Room()
        for number in range(12):
            self.tells(number, room.put("g", number % 2))
        before = drawn(room)
        self.raises("TooMany", {"most": 12}, room.put, "g", 0)
        self.raises("NoName", {}, room.put, "G", 0)
        self.raises("NoSide", {}, room.put, "g", 2)
        self.assertEqual(drawn(room), before)
        room.shut(4)
        self.tells(12, room.put("h", 0))
        self.raises("TooMany", {"most": 12}, room.put, "g", 0)
        self.tells((0, 1, 2, 3) + tuple(range(5, 13)), room.numbers())
        room.back()
        self.tells(12, room.put("h", 0))
        room.back()
        room.back()
        self.raises("TooMany", {"most": 12}, room.put, "g", 0)

    def test_many_boards_one_behind_another(self):
        room = Room()
        for number in range(200):
            self.tells(number, room.put("g", 0))
            room.shut(number)
        self.tells(200, room.put("g", 0))
        self.tells(((200, 201),), (room.put("g", 1), room.sure(("some", (200, 201))))[1])

    def test_errors(self):
        room = room_of((("g", 0, ("a",)), ("g", 1, ())))
        before = drawn(room)
        for name in NO_NAMES:
            self.raises("NoName", {}, room.put, name, None)
            self.raises("NoName", {}, room.put, name, 0)
        for side in NO_SIDES:
            self.raises("NoSide", {}, room.put, "g", side)
        self.refuses_odd("NoName", lambda thing: room.put(thing, 2), ("a", "b", "g", "ab", "all"))
        self.refuses_odd("NoSide", lambda thing: room.put("g", thing), (0, 1))
        self.assertEqual(drawn(room), before)


class ShutAndExchange(Case):
    def test_shut(self):
        room = room_of((("g", 0, ()), ("g", 1, ("a",)), ("g", 1, ())))
        self.tells([(0, 1), (0, 2)], room.pairs())
        self.assertIsNone(room.shut(1))
        self.tells((0, 2), room.numbers())
        self.tells((("g", 0, ()), ("g", 1, ())), room.hall().boards)
        self.tells([(0, 2)], room.pairs())
        for deed in (room.shut, room.exchange, lambda board: room.play(board, "a")):
            self.raises("NoBoard", {}, deed, 1)
            self.raises("NoBoard", {}, deed, 3)
        self.tells(((0, 2),), room.sure(("some", (0, 2))))

    def test_exchange(self):
        room = room_of((("g", 0, ()), ("g", 0, ("a", "b"))))
        self.assertIsNone(room.exchange(1))
        self.tells((("g", 0, ()), ("g", 1, ("a", "b"))), room.hall().boards)
        self.assertIsNone(room.exchange(1))
        self.tells((("g", 0, ()), ("g", 0, ("a", "b"))), room.hall().boards)
        self.assertIsNone(room.exchange(0))
        self.tells((("g", 1, ()), ("g", 0, ("a", "b"))), room.hall().boards)
        self.tells((0, 1), room.numbers())

    def test_errors(self):
        room = room_of((("g", 0, ()), ("h", 1, ()), ("g", 1, ())))
        room.shut(1)
        before = drawn(room)
        for board in (1, 3, -1, 10 ** 59, True, False, None, "0", (0,), [0], {0: 0}):
            self.raises("NoBoard", {}, room.shut, board)
            self.raises("NoBoard", {}, room.exchange, board)
            self.raises("NoBoard", {}, room.play, board, "")
        self.refuses_odd("NoBoard", room.shut, (0, 2))
        self.refuses_odd("NoBoard", room.exchange, (0, 2))
        self.refuses_odd("NoBoard", lambda thing: room.play(thing, "a"), (0, 2))
        self.assertEqual(drawn(room), before)


class Play(Case):
    def test_words(self):
        room = room_of((("g", 0, ()), ("g", 1, ())))
        self.assertIsNone(room.play(0, "a"))
        self.assertIsNone(room.play(0, "b" * 20))
        self.assertIsNone(room.play(1, "c"))
        self.tells((("g", 0, ("a", "b" * 20)), ("g", 1, ("c",))), room.hall().boards)

    def test_pairs_by_words(self):
        room = room_of((("g", 0, ()), ("g", 1, ())))
        self.tells([(0, 1)], room.pairs())
        # The guest's own word at the first side is none that it can copy from there.
        room.play(0, "a")
        self.tells([], room.pairs())
        room.play(1, "a")
        self.tells([(0, 1)], room.pairs())
        room.play(0, "b")
        self.tells([(0, 1)], room.pairs())
        room.play(0, "c")
        self.tells([], room.pairs())

    def test_twenty_words_and_one_more(self):
        room = Room()
        room.put("g", 0)
        for _ in range(20):
            room.play(0, "a")
        before = drawn(room)
        self.raises("Full", {}, room.play, 0, "a")
        self.raises("NoWord", {}, room.play, 0, "A")
        self.raises("NoBoard", {}, room.play, 1, "A")
        self.assertEqual(drawn(room), before)
        self.tells((("g", 0, ("a",) * 20),), room.hall().boards)
        room.exchange(0)
        self.raises("Full", {}, room.play, 0, "a")
        room.back()
        room.back()
        room.play(0, "b")
        self.tells((("g", 0, ("a",) * 19 + ("b",)),), room.hall().boards)

    def test_errors(self):
        room = room_of((("g", 0, ()),))
        before = drawn(room)
        for word in NO_WORDS:
            self.raises("NoWord", {}, room.play, 0, word)
            self.raises("NoBoard", {}, room.play, 1, word)
        self.refuses_odd("NoWord", lambda thing: room.play(0, thing), ("a", "b", "g", "ab", "all"))
        self.assertEqual(drawn(room), before)


class PairsAndSure(Case):
    def setUp(self):
        # The boards stand under the numbers 1, 3, 5 and 7.
        self.room = room_of((("g", 0, ()), ("h", 1, ()), ("g", 0, ()), ("g", 1, ())), 2)

    def test_numbers_with_gaps(self):
        self.tells((1, 3, 5, 7), self.room.numbers())
        self.tells([(1, 7), (5, 7)], self.room.pairs())
        self.tells(((1, 7),), self.room.sure(("some", (1, 7))))
        self.tells(((5, 7),), self.room.sure(("some", (7, 5))))
        self.assertIsNone(self.room.sure(("some", (("all", (1, 5)), 7))))
        self.assertIsNone(self.room.sure(3))
        self.room.exchange(1)
        self.tells([(1, 5), (5, 7)], self.room.pairs())
        self.room.exchange(3)
        self.room.put("h", 1)
        self.tells(((1, 5), (3, 8)), self.room.sure(("all", (("some", (1, 5)), ("least", 1, (8, 3))))))

    def test_numbers_of_no_board(self):
        for number in (0, 2, 4, 6, 8, 9, 10 ** 6, 10 ** 6 + 1, -1, 10 ** 59):
            self.raises("NoAim", {}, self.room.sure, number)
            self.raises("NoAim", {}, self.room.sure, ("all", (1, ("least", 0, (number,)))))
        self.tells(((1, 7),), self.room.sure(("some", (1, 7))))
        self.room.shut(7)
        self.raises("NoAim", {}, self.room.sure, ("some", (1, 7)))
        self.room.back()
        self.tells(((1, 7),), self.room.sure(("some", (1, 7))))

    def test_no_aims(self):
        self.refuses_odd("NoAim", self.room.sure, (1, 7))
        deep = 1
        for _ in range(7):
            deep = ("some", (deep,))
        self.assertIsNone(self.room.sure(deep))
        self.raises("NoAim", {}, self.room.sure, ("some", (deep,)))
        for _ in range(31):
            deep = ("all", (deep,))
        self.raises("NoAim", {}, self.room.sure, deep)
        self.tells(((1, 7),), self.room.sure(("some", (1, 7) * 12)))
        self.raises("NoAim", {}, self.room.sure, ("some", (1, 7) * 12 + (1,)))
        self.raises("NoAim", {}, self.room.sure, ("least", 26, (1, 7)))
        # Two hundred numbers and tuples, and one more.
        self.tells(((1, 7),), self.room.sure(("all", (("some", (1, 7) * 12),) * 7 + (("some", (1, 7) * 11 + (1,)),))))
        self.raises("NoAim", {}, self.room.sure, ("all", (("some", (1, 7) * 12),) * 8))

    def test_more_than_two_thousand_pairings(self):
        room = room_of(fresh_hall(5, 7).boards)
        self.raises("TooMany", {"most": 2000}, room.sure, ("some", (0, 5)))
        self.raises("TooMany", {"most": 2000}, room.sure, ("all", ()))
        self.raises("NoAim", {}, room.sure, 12)
        room.shut(4)
        self.assertIn((0, 5), room.sure(("some", (0, 5))))
        # Of 4 and 8 boards there are 1680.
        self.assertIn((0, 4), room_of(fresh_hall(4, 8).boards).sure(("some", (0, 4))))

    def test_like_the_hall_by_chance(self):
        chance = random.Random(151)
        told = {True: 0, False: 0}
        for _ in range(150):
            gap = chance.randint(1, 3)
            many = chance.randint(1, 7)
            boards = tuple((chance.choice("gh"), chance.randrange(2), chance.choice(((), (), ("a",), ("b",), ("a", "a"))))
                           for _ in range(many))
            room, hall = room_of(boards, gap), Hall(boards)
            number = {at: (at + 1) * gap - 1 for at in range(many)}
            aim = chance.choice((chance_aim(chance, many), ("some", tuple(chance.choices(range(many), k=3)))))
            found = room.sure(moved_to(aim, number))
            places = {number[at]: at for at in number}
            told[found is None] += 1
            self.assertEqual(found is None, sure(hall, aim) is None)
            if found is not None:
                pairing = tuple((places[one], places[other]) for one, other in found)
                self.assertIs(is_sure(hall, aim, pairing), True)
                self.assertTrue(all(reaches(aim, outcome) for outcome in outcomes(pairing)))
                self.assertTrue(same(found, room.sure(moved_to(aim, number))))
                self.assertIn(pairing, all_pairings(pairs(hall)))
        self.assertGreater(min(told.values()), 20)


def moved_to(aim, number):
    """An aim with other numbers."""
    if isinstance(aim, int):
        return number[aim]
    return aim[:-1] + (tuple(moved_to(part, number) for part in aim[-1]),)


class BackAndCopy(Case):
    def test_back_behind_each_deed(self):
        room = Room()
        steps = [drawn(room)]
        for deed in (
                lambda: room.put("g", 0), lambda: room.put("g", 1), lambda: room.play(1, "a"),
                lambda: room.exchange(0), lambda: room.exchange(1), lambda: room.play(0, "b"), lambda: room.shut(1),
                lambda: room.put("h", 1), lambda: room.shut(0), lambda: room.shut(2)):
            deed()
            steps.append(drawn(room))
        self.tells(10, room.depth())
        for step in steps[-2::-1]:
            self.assertIsNone(room.back())
            self.assertEqual(drawn(room), step)
        self.raises("NothingDone", {}, room.back)
        self.assertEqual(drawn(room), steps[0])

    def test_a_board_that_was_shut_is_back_as_it_was(self):
        room = room_of((("g", 1, ("a", "b")), ("h", 0, ())))
        room.exchange(0)
        room.shut(0)
        room.back()
        self.tells((("g", 0, ("a", "b")), ("h", 0, ())), room.hall().boards)
        self.tells((0, 1), room.numbers())

    def test_copies_go_on_apart(self):
        room = room_of((("g", 0, ("a",)), ("g", 1, ())))
        other = room.copy()
        self.assertIs(type(other), Room)
        self.assertIsNot(other, room)
        before = drawn(room)
        self.assertEqual(drawn(other), before)
        other.shut(0)
        other.play(1, "b")
        self.tells(2, other.put("i", 0))
        self.assertEqual(drawn(room), before)
        after = drawn(other)
        self.tells(2, room.put("h", 1))
        room.exchange(1)
        room.back()
        room.back()
        room.back()
        room.play(0, "c")
        self.assertEqual(drawn(other), after)
        while other.depth() > 0:
            other.back()
        self.assertEqual(drawn(other), drawn(Room()))
        self.tells((("g", 0, ("a", "c")),), room.hall().boards)
        while room.depth() > 0:
            room.back()
        self.assertEqual(drawn(room), drawn(Room()))

    def test_what_is_returned_may_be_changed(self):
        room = room_of((("g", 0, ()), ("g", 1, ()), ("g", 1, ())))
        before = drawn(room)
        room.pairs().clear()
        room.pairs().append("x")
        self.assertEqual(drawn(room), before)
        self.assertIsNot(room.pairs(), room.pairs())

    def test_a_hall_that_was_told_stays(self):
        room = room_of((("g", 0, ()), ("g", 1, ())))
        hall = room.hall()
        room.play(0, "a")
        room.exchange(1)
        room.shut(0)
        room.put("h", 0)
        self.tells((("g", 0, ()), ("g", 1, ())), hall.boards)
        self.tells(("g",), hall.names)


class Trying(Case):
    def setUp(self):
        self.room = room_of((("g", 0, ()), ("g", 1, ("a",)), ("h", 0, ())))
        self.room.shut(2)
        self.before = drawn(self.room)

    def stays(self):
        self.assertEqual(drawn(self.room), self.before)

    def test_action_gets_the_room(self):
        self.assertIs(self.room.trying(lambda passed: passed), self.room)
        self.assertIsNone(self.room.trying(lambda passed: None))
        self.stays()

    def test_all_is_put_back(self):
        def action(room):
            self.tells(3, room.put("h", 0))
            room.play(3, "x")
            room.exchange(0)
            room.shut(1)
            return seen(room)

        told = self.room.trying(action)
        self.assertEqual(told, ((0, 3), (("g", 1, ()), ("h", 0, ("x",))), [], 9))
        self.stays()

    def test_what_was_taken_back_is_put_back(self):
        def action(room):
            while room.depth() > 1:
                room.back()
            self.tells(1, room.put("i", 1))
            room.back()
            room.back()
            return room.put("k", 0)

        self.tells(0, self.room.trying(action))
        self.stays()

    def test_errors_go_on(self):
        for error in (Oops("x"), KeyError("x"), KeyboardInterrupt(), SystemExit(3)):
            def action(room):
                room.back()
                room.play(2, "a")
                room.put("i", 0)
                raise error

            with self.assertRaises(type(error)) as caught:
                self.room.trying(action)
            self.assertIs(caught.exception, error)
            self.stays()
        self.raises("NoBoard", {}, self.room.trying, lambda room: room.shut(2))
        self.raises("NoWord", {}, self.room.trying, lambda room: [room.shut(1), room.play(0, "")])
        self.stays()

    def test_trials_within_trials(self):
        def inner(room):
            room.back()
            room.back()
            room.exchange(0)
            return seen(room)

        def fails(room):
            room.shut(0)
            raise Oops("x")

        def outer(room):
            room.play(0, "b")
            middle = drawn(room)
            self.tells((0, 1, 2), room.trying(inner)[0])
            self.assertEqual(drawn(room), middle)
            with self.assertRaises(Oops):
                room.trying(fails)
            self.assertEqual(drawn(room), middle)
            room.back()
            room.back()
            return room.numbers()

        self.tells((0, 1, 2), self.room.trying(outer))
        self.stays()

    def test_copies_made_in_trials_go_on(self):
        def action(room):
            room.put("i", 1)
            return room.copy()

        other = self.room.trying(action)
        self.stays()
        self.tells((0, 1, 3), other.numbers())
        other.shut(3)
        self.tells(4, other.put("i", 0))
        while other.depth() > 0:
            other.back()
        self.assertEqual(drawn(other), drawn(Room()))
        self.stays()

    def test_it_goes_on_behind_a_trial(self):
        self.room.trying(lambda room: room.put("i", 0))
        self.tells(3, self.room.put("i", 0))
        self.room.back()
        self.stays()


class ByChance(Case):
    def test_like_the_model(self):
        chance = random.Random(152)
        for _ in range(40):
            model, room = Model(), Room()
            for _ in range(60):
                self.step(chance, model, room)
                self.assertTrue(same(model.seen(), seen(room)), (model.seen(), seen(room)))
                if chance.random() < 0.05:
                    room = room.copy()

    def step(self, chance, model, room):
        boards, given = model.state()
        kind = chance.choice(("put", "put", "shut", "exchange", "play", "play", "back"))
        board, word = chance.randrange(given + 2), chance.choice("ab")
        if kind == "back":
            if model.done:
                self.assertIsNone(room.back())
                model.done.pop()
            else:
                self.raises("NothingDone", {}, room.back)
        elif kind == "put":
            name, side = chance.choice("gh"), chance.randrange(2)
            if len(boards) == 12:
                self.raises("TooMany", {"most": 12}, room.put, name, side)
            else:
                self.tells(given, room.put(name, side))
                model.done.append(("put", name, side))
        else:
            rest = (board, word) if kind == "play" else (board,)
            deed = {"shut": room.shut, "exchange": room.exchange, "play": room.play}[kind]
            if board not in boards:
                self.raises("NoBoard", {}, deed, *rest)
            else:
                self.assertIsNone(deed(*rest))
                model.done.append((kind, *rest))


if __name__ == "__main__":
    unittest.main()
