import inspect
import unittest

from takenover import errors
from takenover.errors import SheetError
from wrongs import wrong_things

FIELDS = {
    "BadLog": ["part"], "NoDoing": [], "NoOffice": [], "OtherOffices": [], "NoNumber": [], "NoRow": [],
    "BadRow": [], "NoSheets": [], "NoCuts": [], "NoBorder": [], "NoSide": [], "NoPost": [], "NoCut": [],
    "NoList": [], "NoOrder": [], "SureRow": ["row"], "NoEdition": [], "TooMany": ["most"], "NoFinds": [],
    "NoFind": [], "NoMoment": [], "NoChances": [], "BadWeb": ["part"], "NoLot": [], "NoWorths": [],
    "NothingDone": [], "NoMoments": [], "NoAnswer": ["moment", "office"], "BadText": ["line"], "NoLine": [],
    "NoName": ["name"], "NoDenials": [], "NoHands": [], "NoPair": [], "NoChain": [],
}


class Errors(unittest.TestCase):
    def test_all_classes_derive_directly(self):
        self.assertEqual((ValueError,), SheetError.__bases__)
        self.assertEqual(35, len(FIELDS))
        for name in FIELDS:
            self.assertEqual((SheetError,), getattr(errors, name).__bases__, name)
        found = [name for name, thing in vars(errors).items() if inspect.isclass(thing)]
        self.assertEqual(sorted(list(FIELDS) + ["SheetError"]), sorted(found))

    def test_fields_are_kept_whatever_is_passed(self):
        deep = [0]
        for _ in range(100000):
            deep = [deep]
        for name, fields in FIELDS.items():
            made = getattr(errors, name)
            for thing in wrong_things() + [10 ** 6000, deep, 1.5, {1}]:
                error = made(*[thing for _ in fields])
                self.assertEqual(fields, sorted(vars(error)))
                for field in fields:
                    self.assertIs(thing, getattr(error, field))
        while deep != [0]:
            deep = deep.pop()

    def test_both_fields_stand_in_their_order(self):
        error = errors.NoAnswer(3, 5)
        self.assertEqual((3, 5), (error.moment, error.office))

    def test_made_with_just_the_fields(self):
        for name, fields in FIELDS.items():
            made = getattr(errors, name)
            self.assertRaises(TypeError, made, *range(len(fields) + 1))
            if fields:
                self.assertRaises(TypeError, made, *range(len(fields) - 1))

    def test_raised_and_caught_as_what_they_are(self):
        for name, fields in FIELDS.items():
            made = getattr(errors, name)
            for caught in (made, SheetError, ValueError):
                with self.assertRaises(caught):
                    raise made(*fields)

    def test_equal_to_nothing_else(self):
        for name, fields in FIELDS.items():
            error = getattr(errors, name)(*fields)
            for thing in wrong_things():
                self.assertFalse(error == thing)


if __name__ == "__main__":
    unittest.main()
