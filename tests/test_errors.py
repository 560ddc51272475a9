"""0.3 and the interface: the error classes and their fields."""

import copy
import unittest

from tests.helpers import Case, odd_things
from untoldgames import errors

FIELDS = {
    "NoRow": [], "NoGame": [], "NoRows": [], "TooMany": ["most"], "NoSide": [], "BadHall": ["at"], "NoLot": [],
    "NoAim": [], "NoNumber": [], "NoGames": [], "NoBoard": [], "NoWord": [], "NotTurn": [], "NotLet": [],
    "NothingDone": [], "NoLog": [], "NoMove": [], "NoAnswer": [], "NoPairing": [], "NotSpoiled": [], "Over": [],
    "NotFresh": [], "NoChoice": [], "NoSorts": [], "NoPoints": [], "NoStocks": [], "NoPrices": [], "NoRelay": [],
    "NoName": [], "Full": [], "BadText": ["line"], "NoText": [], "NoLine": [], "NoKey": ["key"],
}


class Errors(Case):
    def test_bases(self):
        self.assertEqual(errors.HallError.__bases__, (ValueError,))
        for name in FIELDS:
            self.assertEqual(getattr(errors, name).__bases__, (errors.HallError,), name)

    def test_there_are_no_others(self):
        found = [name for name, thing in vars(errors).items() if isinstance(thing, type)]
        self.assertEqual(sorted(found), sorted(["HallError", *FIELDS]))

    def test_fields(self):
        for name, fields in FIELDS.items():
            for thing in odd_things():
                error = getattr(errors, name)(*[thing for _ in fields])
                self.assertEqual(list(vars(error)), fields)
                for field in fields:
                    self.assertIs(getattr(error, field), thing)

    def test_made_with_just_these(self):
        for name, fields in FIELDS.items():
            kind = getattr(errors, name)
            with self.assertRaises(TypeError, msg=name):
                kind(*["x" for _ in fields], "y")
            if fields:
                with self.assertRaises(TypeError, msg=name):
                    kind()
                self.assertEqual(getattr(kind(**{fields[0]: 7}), fields[0]), 7)

    def test_equal_to_nothing_else(self):
        self.assertNotEqual(errors.TooMany(3), errors.BadHall(3))
        self.assertNotEqual(errors.NoRow(), errors.NoGame())
        self.assertNotEqual(errors.TooMany(3), 3)

    def test_copies_keep_the_fields(self):
        self.assertEqual(vars(copy.copy(errors.TooMany(600))), {"most": 600})
        self.assertIs(type(copy.copy(errors.NoRow())), errors.NoRow)


if __name__ == "__main__":
    unittest.main()
