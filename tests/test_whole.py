"""Over the whole program: one hall, its aim and its games by text, at the desk and in a room, with the same verdicts."""

import random
import unittest

from tests.helpers import Case, chance_aim, chance_games, chance_masters, same
from untoldgames.aims import reached
from untoldgames.desk import Desk
from untoldgames.errors import NotSpoiled
from untoldgames.foes import Foe, led_by_foe
from untoldgames.following import is_following
from untoldgames.halls import Hall, are_games, least_games, only, turned
from untoldgames.house import cheapest, enough
from untoldgames.knowing import told_move, told_won
from untoldgames.logs import heard_games, log_fault, log_rows
from untoldgames.meeting import met_spoiler
from untoldgames.news import certain, news
from untoldgames.pairs import pairings, pairs
from untoldgames.playing import copied, led
from untoldgames.points import most_points
from untoldgames.reading import read_aim, read_games, read_hall, read_log
from untoldgames.relays import delay, is_sure_relayed, standing, sure_relayed
from untoldgames.rooms import Room
from untoldgames.sorts import mixed
from untoldgames.strength import gives, handicaps, is_handicap, strongest, strongest_met
from untoldgames.texts import aim_text, games_text, hall_text, log_text
from untoldgames.verdicts import is_sure, spoilers, sure


def room_of(hall):
    """A room with the boards of a hall under their own numbers."""
    room = Room()
    for name, side, begun in hall.boards:
        number = room.put(name, 1 - side)
        for word in begun:
            room.play(number, word)
        room.exchange(number)
    return room


def couples_of(text):
    """The pairs of a text of the desk."""
    return tuple(tuple(int(board) for board in pair.split("-")) for pair in text.split(" ") if pair != "none")


def chance_stories(seed, many, begun):
    """So many halls by chance, with an aim and games."""
    chance = random.Random(seed)
    for _ in range(many):
        boards = tuple((chance.choice("gh"), chance.randrange(2), chance.choice(begun)) for _ in range(chance.randint(1, 6)))
        hall, numbers = Hall(boards), tuple(range(len(boards)))
        aim = chance.choice((
            chance_aim(chance, len(boards)), ("some", tuple(chance.choices(numbers, k=3))),
            ("least", chance.randint(1, 2), numbers)))
        yield chance, hall, aim, chance_games(chance, hall)


class Whole(Case):
    def stories(self, seed, many=60, begun=((), (), ("a",), ("b",), ("a", "b"))):
        """Halls, aims and games by chance that were written and read again."""
        for chance, hall, aim, games in chance_stories(seed, many, begun):
            again = read_hall(hall_text(hall))
            self.assertTrue(again == hall and hall == again)
            self.tells(hall.boards, again.boards)
            self.tells(aim, read_aim(aim_text(aim)))
            self.tells(games, read_games(games_text(games)))
            self.assertTrue(are_games(again, read_games(games_text(games))))
            yield chance, again, read_aim(aim_text(aim)), read_games(games_text(games))

    def test_the_same_verdict_by_all_ways(self):
        told = {True: 0, False: 0}
        for _, hall, aim, _ in self.stories(301, 150):
            desk, room = Desk(), room_of(hall)
            desk.tell("hall key " + hall_text(hall).replace("\n", "|"))
            is_found = sure(hall, aim) is not None
            told[is_found] += 1
            self.assertEqual(room.hall().boards, hall.boards)
            self.assertEqual(room.pairs(), pairs(hall))
            self.assertEqual(couples_of(desk.tell("pairs key")), tuple(pairs(hall)))
            by_desk = desk.tell(f"sure key {aim_text(aim)}")
            self.assertEqual(by_desk != "never", is_found)
            self.assertEqual(room.sure(aim) is not None, is_found)
            if is_found:
                for pairing in (sure(hall, aim), room.sure(aim), couples_of(by_desk)):
                    self.assertIs(is_sure(hall, aim, pairing), True)
            self.assertEqual(spoilers(hall, aim) is None, is_found)
            self.assertEqual(any(gives(hall, strong, aim) for strong in strongest(hall)), is_found)
            self.assertEqual(enough(hall, aim) != [], is_found)
            self.assertEqual(desk.tell(f"enough key {aim_text(aim)}") != "never", is_found)
            self.assertEqual(handicaps(hall, aim) == [()], is_found)
            self.assertIs(is_handicap(hall, aim, ()), is_found)
        self.assertGreater(min(told.values()), 25)

    def test_fresh_halls(self):
        told = {True: 0, False: 0}
        for _, hall, aim, _ in self.stories(302, 150, ((),)):
            is_found, many = sure(hall, aim) is not None, len(hall.boards)
            desk = Desk()
            desk.tell("hall key " + hall_text(hall).replace("\n", "|"))
            relay = ((3,) * many, {}, ((2, 2),) * many)
            self.tells(pairs(hall), standing(hall, relay))
            self.assertEqual(sure_relayed(hall, aim, relay) is not None, is_found)
            self.tells(10 ** 7 if is_found else -1, delay(hall, aim, relay))
            if is_found:
                self.assertIs(is_sure_relayed(hall, aim, relay, sure(hall, aim)), True)
            met = met_spoiler(hall, aim) is None
            told[met] += 1
            self.tells("yes" if met else "no", desk.tell(f"met key {aim_text(aim)}"))
            self.assertIs(gives(hall, strongest_met(hall), aim), met)
            for sort, right in (("strange", is_found), ("told", met), ("met", met)):
                self.tells("sure" if right else "lost", mixed(hall, aim, {name: sort for name in hall.names})[0])
        self.assertGreater(min(told.values()), 40)

    def test_guests_and_foes(self):
        for chance, hall, aim, games in self.stories(303, 80):
            pairing = sure(hall, aim)
            if pairing is not None:
                won, log = led(hall, games, lambda rows, refused: copied(hall, pairing, rows),
                               chance_masters(games, hall, chance.random()))
                self.assertIs(reached(hall, aim, won), True)
                with self.assertRaises(NotSpoiled):
                    Foe(hall, aim)
            else:
                best = max(pairings(hall), key=len)
                won, log, games = led_by_foe(hall, aim, lambda rows, refused: copied(hall, best, rows))
                self.assertIs(reached(hall, aim, won), False)
            self.check_log(hall, read_games(games_text(games)), log)

    def check_log(self, hall, games, log):
        """Checks what is told of a log by games, with the log written and read again."""
        again = read_log(log_text(log))
        self.tells(log, again)
        self.assertIsNone(log_fault(hall, games, again))
        rows, heard = log_rows(hall, again), heard_games(hall, again)
        self.assertTrue(are_games(hall, read_games(games_text(heard))))
        for board, word in certain(hall, again):
            self.tells("let", news(hall, again, hall.boards[board][0], rows[board], word))
        for item in again:
            if item[-1] is False:
                name = hall.boards[item[1]][0]
                ahead = log_rows(hall, again[:again.index(item)])
                self.tells("refused", news(hall, again, name, ahead[item[1]], item[2]))

    def test_who_knows_the_games(self):
        for chance, hall, _, games in self.stories(304, 60):
            won, log = led(hall, games, lambda rows, refused: told_move(hall, games, rows),
                           chance_masters(games, hall, chance.random()))
            self.assertTrue(set(told_won(hall, games)) <= set(won))
            self.check_log(hall, games, log)
            # Who copies needs no games, but wins no more than one who knows them can be sure of.
            pairing = pairings(hall)[0]
            number, _ = most_points(hall, (1,) * len(hall.boards))
            self.assertTrue(len(pairing) <= number <= len(hall.boards))

    def test_rooms_and_desks_go_the_same_way(self):
        chance = random.Random(305)
        for _ in range(40):
            desk, room = Desk(), Room()
            for _ in range(12):
                numbers = room.numbers()
                deed = chance.choice(("put", "put", "shut", "exchange", "play", "back"))
                if deed == "put":
                    room.put(chance.choice("gh"), chance.randrange(2))
                elif deed == "back" and room.depth() > 1:
                    room.back()
                    desk.tell("undo")
                    self.assertEqual(read_hall(desk.tell("show key").replace("|", "\n")).boards, room.hall().boards)
                    continue
                elif len(numbers) > 1:
                    board = chance.choice(numbers)
                    if deed == "play":
                        room.play(board, chance.choice("ab"))
                    else:
                        (room.shut if deed == "shut" else room.exchange)(board)
                else:
                    continue
                text = hall_text(room.hall())
                desk.tell("hall key " + text.replace("\n", "|"))
                self.tells(room.depth(), desk.undoable())
                self.assertEqual(desk.tell("turned key").replace("|", "\n"), hall_text(turned(room.hall())))
                places = {number: at for at, number in enumerate(room.numbers())}
                self.tells([(places[one], places[other]) for one, other in room.pairs()], pairs(room.hall()))

    def test_what_is_returned_may_be_passed_on(self):
        for chance, hall, aim, games in self.stories(306, 40):
            for strong in strongest(hall):
                self.assertIsNotNone(sure(hall, strong))
                self.tells(strong, read_aim(aim_text(strong)))
            for lot in enough(hall, aim):
                if lot:
                    self.assertEqual(len(only(hall, lot).boards), len(lot))
            prices = tuple(chance.randrange(5) for _ in hall.boards)
            if sure(hall, aim) is not None:
                self.assertIn(cheapest(hall, aim, prices)[1], enough(hall, aim))
            self.tells(least_games(hall), read_games(games_text(least_games(hall))))
            if all(board[2] == () for board in hall.boards):
                self.tells(strongest_met(hall), read_aim(aim_text(strongest_met(hall))))
            # Each aim follows from itself, board by board.
            copying = tuple((at, at + len(hall.boards)) for at in range(len(hall.boards)))
            self.assertIs(is_following(hall, aim, hall, aim, copying), True)
            self.assertTrue(same(games, read_games(games_text(games))))


if __name__ == "__main__":
    unittest.main()
