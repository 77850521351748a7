"""The error classes: points 0.3 and the interface."""

import unittest

from frontparts import errors

FIELDS = {
    "BadBag": "part", "TooLong": "most", "TooMany": "most", "BadText": "line", "NoName": "name",
    "UnlikeClocks": None, "NoNumber": None, "NoWord": None, "NoBags": None, "IsNothing": None, "NoRow": None,
    "NotLevel": None, "NoSystem": None, "NoGoals": None, "NoPrices": None, "NoPart": None, "NoLot": None,
    "NoOrder": None, "NoWay": None, "NoPlace": None, "NoKnot": None, "IsNumber": None, "NoStock": None,
    "NoAlphabet": None, "NoLetters": None, "NoClock": None, "NoBag": None, "Full": None, "NothingDone": None,
    "NoLine": None,
}


class Errors(unittest.TestCase):

    def test_all_derive_directly_from_bag_error(self):
        self.assertEqual(errors.BagError.__bases__, (ValueError,))
        for name in FIELDS:
            self.assertEqual(getattr(errors, name).__bases__, (errors.BagError,), name)

    def test_all_are_defined_in_their_file(self):
        for name in [*FIELDS, "BagError"]:
            self.assertEqual(getattr(errors, name).__module__, "frontparts.errors")

    def test_they_are_made_with_their_fields_and_keep_them(self):
        for name, field in FIELDS.items():
            if field is None:
                self.assertEqual(vars(getattr(errors, name)()), {}, name)
            else:
                for worth in (12, "clock", ""):
                    self.assertEqual(vars(getattr(errors, name)(worth)), {field: worth}, name)

    def test_those_with_fields_need_them(self):
        for name, field in FIELDS.items():
            if field is not None:
                with self.assertRaises(TypeError):
                    getattr(errors, name)()

    def test_they_are_caught_as_value_errors(self):
        for name, field in FIELDS.items():
            error = getattr(errors, name)
            with self.assertRaises(ValueError):
                raise error() if field is None else error(1)

    def test_an_error_is_equal_to_nothing_else(self):
        self.assertNotEqual(errors.TooLong(12), errors.TooMany(12))
        self.assertNotEqual(errors.TooLong(12), 12)


if __name__ == "__main__":
    unittest.main()
