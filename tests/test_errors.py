"""Promise 0.3: the error classes, what they derive from, their fields."""

import unittest

from neatbooks import errors
from tests.samples import odd_things

FIELDS = {
    "BadLore": ["part"], "NoTerm": [], "NoLine": [], "NoLot": [], "NoNames": [], "OtherSigns": [],
    "BadText": ["place"], "NoWorld": [], "NoChoice": [], "NoNumber": [], "NoPick": [], "NoWishes": [],
    "NoBook": [], "NoPlace": [], "BadStep": ["index"], "NoWeights": [], "NoRanks": [], "NoEndless": [],
    "NoJoining": [], "NoClass": [], "TooMany": ["most"], "Full": [], "NothingDone": [], "BadDeed": ["line"],
    "NoAnswer": ["one", "other"], "NoForm": [], "NoName": ["name"],
}


class Errors(unittest.TestCase):
    def test_all_are_there(self):
        names = [name for name, thing in vars(errors).items() if isinstance(thing, type)]
        self.assertEqual(sorted(names), sorted([*FIELDS, "LoreError"]))

    def test_what_they_derive_from(self):
        self.assertEqual(errors.LoreError.__bases__, (ValueError,))
        for name in FIELDS:
            self.assertEqual(getattr(errors, name).__bases__, (errors.LoreError,), name)

    def test_fields_are_kept_whatever_they_are(self):
        for name, fields in FIELDS.items():
            for thing in odd_things():
                error = getattr(errors, name)(*[thing for _ in fields])
                self.assertEqual(list(vars(error)), fields)
                for field in fields:
                    self.assertIs(getattr(error, field), thing)
                self.assertIsInstance(str(error), str)

    def test_fields_are_told_apart(self):
        error = errors.NoAnswer(1, 2)
        self.assertEqual((error.one, error.other), (1, 2))

    def test_made_with_just_their_fields(self):
        for name, fields in FIELDS.items():
            made = getattr(errors, name)
            with self.assertRaises(TypeError):
                made(*[0 for _ in fields], 0)
            if fields:
                with self.assertRaises(TypeError):
                    made(*[0 for _ in fields[1:]])

    def test_equal_to_nothing_else(self):
        for name, fields in FIELDS.items():
            error = getattr(errors, name)(*[0 for _ in fields])
            for thing in odd_things():
                self.assertFalse(error == thing)


if __name__ == "__main__":
    unittest.main()
