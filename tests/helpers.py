"""What the tests share: odd things to pass, how errors are checked, and small games and halls by chance."""

import itertools
import random
import unittest

from untoldgames import errors
from untoldgames.desk import Desk
from untoldgames.foes import Foe
from untoldgames.halls import Hall, joined
from untoldgames.rooms import Room
from untoldgames.sittings import Sitting

LETTERS = "abcdefghijklmnopqrstuvwxyz"

# What is wrong as one of several prices.
NO_PRICES = (-1, 10 ** 6 + 1, 10 ** 59, True, False, None, "1", (1,), [1], b"1", {})

# Boards without names of 29 greatest pairings, and of 69, found by chance.
SMALLER = (
    (0, ()), (0, ("a", "a")), (1, ()), (1, ()), (1, ()), (1, ()), (1, ()), (1, ("a",)), (1, ("a",)), (1, ("a",)),
    (1, ("a", "a", "a")))
LARGER = (
    (0, ()), (0, ("a",)), (0, ("b", "a")), (1, ()), (1, ("a",)), (1, ("a",)), (1, ("a",)), (1, ("b",)),
    (1, ("b", "a")), (1, ("b", "a")), (1, ("b", "a")), (1, ("b", "a")), (1, ("b", "a")))


def nested_list(deep):
    thing = []
    for _ in range(deep - 1):
        thing = [thing]
    return thing


def nested_tuple(deep, inmost=()):
    thing = inmost
    for _ in range(deep - 1):
        thing = (thing,)
    return thing


def odd_things():
    """Objects of many kinds, new ones each time; most are wrong everywhere, some are right here and there."""
    return [
        None, True, False, 0, 1, 2, -1, 10 ** 59, -(10 ** 59), NotImplemented, Ellipsis, object(),
        "", "a", "b", "g", "A", "ab", "a b", "a\n", "\ta", "a1", "~", "all", "x" * 21, "x" * 10000,
        b"", b"a", b"all", bytearray(b"a"), memoryview(b"a"),
        [], [0], [()], [(), ("a",)], ["a"], ["all", ()], [("g", 0, ())], [None, [None]],
        (), (0,), (1,), (True,), (False,), (0, 0), (1, 0), (0, 1), (0, True), (-1,), (0, 10 ** 59), ("a",), ("a", 1),
        ("a", None), (["a"],), (("a",),), ("a", ("b",)), ((),), ((), ()), ((), ("a",)), (("a",), ()), ((), ["a"]),
        ((), (1,)), ((), None), ("A",), ("",), ("a" * 21,), (b"a",), ((0, 1),), ([0, 1],), ((False, 1),), ((0, 1, 2),),
        ((0, None),), ({},), ({"a": 1},), (None,), (None, None), ("all",), ("all", 0), ("all", [0]), ("some", None),
        ("least", 0), ("least", True, ()), ("least", "1", ()), ("least", 0, []), ("least", 0, (), ()), (b"all", ()),
        ("most", ()), (("all",), ()), ([], ()), ({}, ()), ("g", 0, ()), (("g", 0),), (("g", 0, []),),
        {}, {"a": 1}, {"g": ()}, {"g": ((),)}, {(): "a"}, {(): None}, {0: 1}, {None: None}, {("a",): []}, {True: False},
        {((0, 1),): (0,)}, {((False, 1),): (0,)}, {"g": {}}, {"g": None}, {"g": [()]}, {b"g": ((),)}, {(1, (2,)): {}},
        nested_list(40), nested_tuple(40), nested_tuple(40, {}), (0,) * 10000, ("a",) * 10000, [()] * 10000,
        ((),) * 5000, range(2), slice(1), iter([]), iter({}), {}.keys(), {1: 2}.items(), zip(), (x for x in ()),
        int, str, tuple, dict, len, odd_things, lambda *rest: (), "".join, random, property(), ValueError("a"), KeyError,
        errors.HallError, errors.NoRow(), errors.TooMany(3), Hall((("g", 0, ()),)), Hall, Room, Room(), Desk(),
        Sitting(Hall((("g", 0, ()),)), {"g": ((),)}), Foe(Hall((("g", 0, ()),)), 0), Room().put,
    ]


def shown(thing):
    """A short text of a thing, for messages."""
    return repr(thing)[:80]


class Case(unittest.TestCase):
    """A test case that knows how errors of the package must be."""

    def raises(self, name, fields, function, *args):
        """Checks that a call raises an error of just this class, with just these fields."""
        kind = getattr(errors, name)
        try:
            function(*args)
        except Exception as error:
            self.assertIs(type(error), kind, (function, [shown(thing) for thing in args], error))
            self.assertEqual(vars(error), fields)
            for field, value in fields.items():
                self.assertIs(type(getattr(error, field)), type(value))
            return
        self.fail((name, function, [shown(thing) for thing in args]))

    def refuses_odd(self, name, function, right=()):
        """Checks that a function of one argument raises an error without fields for all odd things.

        Those that are in right, of the same kinds throughout, are passed over.
        """
        for thing in odd_things():
            if not any(same(thing, other) for other in right):
                self.raises(name, {}, function, thing)

    def judges_odd(self, function, right=()):
        """Checks that a function of one argument judges all odd things, and only lets those that are in right."""
        for thing in odd_things():
            judged = function(thing)
            self.assertIs(type(judged), bool)
            self.assertEqual(judged, any(same(thing, other) for other in right), shown(thing))

    def tells(self, expected, told):
        """Checks that what is told is the same, and of the same kinds throughout."""
        self.assertEqual(expected, told)
        self.assertTrue(same(expected, told), (expected, told))


def same(one, other):
    """Tells whether two things are equal and of the same kinds throughout, so that 0 is not False."""
    if type(one) is not type(other):
        return False
    if isinstance(one, (list, tuple)):
        return len(one) == len(other) and all(same(*both) for both in zip(one, other))
    if isinstance(one, dict):
        return len(one) == len(other) and all(
            any(same(item, another) for another in other.items()) for item in one.items())
    return one == other


def chance_game(chance, letters="ab", longest=4, likely=0.5):
    """A game by chance: each row has each longer one with some likelihood."""
    rows = [()]
    waiting = [()]
    while waiting:
        row = waiting.pop()
        for word in letters:
            if len(row) < longest and chance.random() < likely:
                rows.append(row + (word,))
                waiting.append(row + (word,))
    return tuple(sorted(rows))


def chance_board(chance, names="gh", begun=((), ("a",), ("b",), ("a", "a"))):
    """A board by chance."""
    return (chance.choice(names), chance.randrange(2), chance.choice(begun))


def chance_hall(chance, most=6, names="gh", begun=((), ("a",), ("b",), ("a", "a"))):
    """A hall by chance."""
    return Hall(tuple(chance_board(chance, names, begun) for _ in range(chance.randint(1, most))))


def many_words(many):
    """So many words, ascending."""
    return [one + other for one in LETTERS for other in LETTERS][:many]


def fresh_hall(firsts, seconds, name="g"):
    """A hall of one name with so many boards at the first side, and then so many at the second one."""
    return Hall(((name, 0, ()),) * firsts + ((name, 1, ()),) * seconds)


def chance_aim(chance, many, deep=4):
    """An aim by chance, of boards' numbers below many."""
    if deep == 1 or chance.random() < 0.25:
        return chance.randrange(many)
    parts = tuple(chance_aim(chance, many, deep - 1) for _ in range(chance.choice((0, 1, 2, 2, 3, 3, 4))))
    kind = chance.choice(("all", "some", "least"))
    if kind == "least":
        return (kind, chance.randint(0, len(parts) + 1), parts)
    return (kind, parts)


def reaches(aim, won):
    """Whether a lot reaches an aim, straight by what the document says."""
    if isinstance(aim, int):
        return aim in won
    told = [reaches(part, won) for part in aim[-1]]
    if aim[0] == "all":
        return all(told)
    if aim[0] == "some":
        return any(told)
    return sum(told) >= aim[1]


def apart(pairing):
    """Whether no board is in two pairs."""
    boards = [board for pair in pairing for board in pair]
    return len(boards) == len(set(boards))


def all_pairings(couples):
    """All pairings of an ascending list of pairs, straight by what the document says."""
    found = [()]
    for couple in couples:
        found += [pairing + (couple,) for pairing in found if apart(pairing + (couple,))]
    return found


def all_greatest(couples):
    """All greatest pairings of an ascending list of pairs, straight by what the document says."""
    return sorted(pairing for pairing in all_pairings(couples)
                  if not any(apart(pairing + (couple,)) for couple in couples if couple not in pairing))


def lots(many):
    """All lots of numbers below many, those of fewer ones first."""
    return [lot for size in range(many + 1) for lot in itertools.combinations(range(many), size)]


def least_lots(many, is_one):
    """The ascending list of the lots for which is_one holds, and for no lesser part of them."""
    found = []
    for lot in lots(many):
        if not any(set(less) <= set(lot) for less in found) and is_one(lot):
            found.append(lot)
    return sorted(found)


def outcomes(pairing):
    """All outcomes of a pairing."""
    return [tuple(sorted(outcome)) for outcome in itertools.product(*pairing)]


def many_pairings(many):
    """A hall of at most 24 boards that has 2000, or 2001, greatest pairings."""
    if many == 2000:
        # 5 * 4 for each of two names, and 5 for a third one.
        boards = fresh_hall(2, 5, "g").boards + fresh_hall(2, 5, "h").boards + fresh_hall(1, 5, "i").boards
    else:
        # 29 for the one name, 69 for the other one.
        boards = tuple(("g", *board) for board in SMALLER) + tuple(("h", *board) for board in LARGER)
    return joined(Hall(boards[:12]), Hall(boards[12:]))


def chance_games(chance, hall, letters="ab", longest=6, likely=0.7):
    """Games for a hall by chance."""
    games = {}
    for name in hall.names:
        rows = list(chance_game(chance, letters, longest, likely))
        for board in hall.boards:
            if board[0] == name:
                rows += [board[2][:length] for length in range(len(board[2]) + 1)]
        games[name] = tuple(sorted(set(rows)))
    return games


def chance_masters(games, hall, seed, waiting=0.3):
    """Masters by chance, who give the same for the same board and row, and wait now and then."""
    def masters(board, row):
        chance = random.Random(f"{seed} {board} {row}")
        words = words_at(games[hall.boards[board][0]], row)
        return None if not words or chance.random() < waiting else chance.choice(words)

    return masters


def words_at(game, row):
    """The words that are let at a row of a game."""
    return [longer[-1] for longer in game if len(longer) == len(row) + 1 and longer[:-1] == row]
