"""What the tests share: odd things to pass, how errors are checked, and small games and halls by chance."""

import random
import unittest

from untoldgames import errors
from untoldgames.halls import Hall

LETTERS = "abcdefghijklmnopqrstuvwxyz"


def nested_list(deep):
    thing = []
    for _ in range(deep - 1):
        thing = [thing]
    return thing


def nested_tuple(deep, inmost=()):
    thing = inmost
    for _ in range(deep - 1):
        thing = (thing,)
    return thing


def odd_things():
    """Objects of many kinds, new ones each time; most are wrong everywhere, some are right here and there."""
    return [
        None, True, False, 0, 1, 2, -1, 10 ** 59, -(10 ** 59), NotImplemented, Ellipsis, object(),
        "", "a", "b", "g", "A", "ab", "a b", "a\n", "\ta", "a1", "~", "all", "x" * 21, "x" * 10000,
        b"", b"a", b"all", bytearray(b"a"), memoryview(b"a"),
        [], [0], [()], [(), ("a",)], ["a"], ["all", ()], [("g", 0, ())], [None, [None]],
        (), (0,), (1,), (True,), (False,), (0, 0), (1, 0), (0, 1), (0, True), (-1,), (0, 10 ** 59), ("a",), ("a", 1),
        ("a", None), (["a"],), (("a",),), ("a", ("b",)), ((),), ((), ()), ((), ("a",)), (("a",), ()), ((), ["a"]),
        ((), (1,)), ((), None), ("A",), ("",), ("a" * 21,), (b"a",), ((0, 1),), ([0, 1],), ((False, 1),), ((0, 1, 2),),
        ((0, None),), ({},), ({"a": 1},), (None,), (None, None), ("all",), ("all", 0), ("all", [0]), ("some", None),
        ("least", 0), ("least", True, ()), ("least", "1", ()), ("least", 0, []), ("least", 0, (), ()), (b"all", ()),
        ("most", ()), (("all",), ()), ([], ()), ({}, ()), ("g", 0, ()), (("g", 0),), (("g", 0, []),),
        {}, {"a": 1}, {"g": ()}, {"g": ((),)}, {(): "a"}, {(): None}, {0: 1}, {None: None}, {("a",): []}, {True: False},
        {((0, 1),): (0,)}, {((False, 1),): (0,)}, {"g": {}}, {"g": None}, {"g": [()]}, {b"g": ((),)}, {(1, (2,)): {}},
        nested_list(40), nested_tuple(40), nested_tuple(40, {}), (0,) * 10000, ("a",) * 10000, [()] * 10000,
        ((),) * 5000, range(2), slice(1), iter([]), iter({}), {}.keys(), {1: 2}.items(), zip(), (x for x in ()),
        int, str, tuple, dict, len, odd_things, lambda *rest: (), "".join, random, property(), ValueError("a"), KeyError,
        errors.HallError, errors.NoRow(), errors.TooMany(3), Hall((("g", 0, ()),)),
    ]


def shown(thing):
    """A short text of a thing, for messages."""
    return repr(thing)[:80]


class Case(unittest.TestCase):
    """A test case that knows how errors of the package must be."""

    def raises(self, name, fields, function, *args):
        """Checks that a call raises an error of just this class, with just these fields."""
        kind = getattr(errors, name)
        try:
            function(*args)
        except Exception as error:
            self.assertIs(type(error), kind, (function, [shown(thing) for thing in args], error))
            self.assertEqual(vars(error), fields)
            for field, value in fields.items():
                self.assertIs(type(getattr(error, field)), type(value))
            return
        self.fail((name, function, [shown(thing) for thing in args]))

    def refuses_odd(self, name, function, right=()):
        """Checks that a function of one argument raises an error without fields for all odd things.

        Those that are in right, of the same kinds throughout, are passed over.
        """
        for thing in odd_things():
            if not any(same(thing, other) for other in right):
                self.raises(name, {}, function, thing)

    def judges_odd(self, function, right=()):
        """Checks that a function of one argument judges all odd things, and only lets those that are in right."""
        for thing in odd_things():
            judged = function(thing)
            self.assertIs(type(judged), bool)
            self.assertEqual(judged, any(same(thing, other) for other in right), shown(thing))

    def tells(self, expected, told):
        """Checks that what is told is the same, and of the same kinds throughout."""
        self.assertEqual(expected, told)
        self.assertTrue(same(expected, told), (expected, told))


def same(one, other):
    """Tells whether two things are equal and of the same kinds throughout, so that 0 is not False."""
    if type(one) is not type(other):
        return False
    if isinstance(one, (list, tuple)):
        return len(one) == len(other) and all(same(*both) for both in zip(one, other))
    if isinstance(one, dict):
        return len(one) == len(other) and all(
            any(same(item, another) for another in other.items()) for item in one.items())
    return one == other


def chance_game(chance, letters="ab", longest=4, likely=0.5):
    """A game by chance: each row has each longer one with some likelihood."""
    rows = [()]
    waiting = [()]
    while waiting:
        row = waiting.pop()
        for word in letters:
            if len(row) < longest and chance.random() < likely:
                rows.append(row + (word,))
                waiting.append(row + (word,))
    return tuple(sorted(rows))


def chance_board(chance, names="gh", begun=((), ("a",), ("b",), ("a", "a"))):
    """A board by chance."""
    return (chance.choice(names), chance.randrange(2), chance.choice(begun))


def chance_hall(chance, most=6, names="gh", begun=((), ("a",), ("b",), ("a", "a"))):
    """A hall by chance."""
    return Hall(tuple(chance_board(chance, names, begun) for _ in range(chance.randint(1, most))))


def many_words(many):
    """So many words, ascending."""
    return [one + other for one in LETTERS for other in LETTERS][:many]


def fresh_hall(firsts, seconds, name="g"):
    """A hall of one name with so many boards at the first side, and then so many at the second one."""
    return Hall(((name, 0, ()),) * firsts + ((name, 1, ()),) * seconds)
