"""letterhouse/errors.py: the classes and what stands under what."""

import unittest

from letterhouse import errors

PLAIN = ("BadBytes", "BadName", "BadValue", "TooLong", "NoTime", "BadPiece", "Twice", "NoLetter", "NoFolder",
         "BadLine")
PLACED = ("BadRow", "BadSixty", "BadSixteens", "BadTime", "BadPeople", "BadHeader", "BadBody", "BadRule")


class Errors(unittest.TestCase):
    def test_house_error_is_a_value_error(self):
        self.assertEqual(errors.HouseError.__bases__, (ValueError,))

    def test_plain_ones_stand_straight_under_house_error(self):
        for name in PLAIN + ("Wrong",):
            with self.subTest(name):
                self.assertEqual(getattr(errors, name).__bases__, (errors.HouseError,))

    def test_placed_ones_stand_straight_under_wrong(self):
        for name in PLACED:
            with self.subTest(name):
                self.assertEqual(getattr(errors, name).__bases__, (errors.Wrong,))

    def test_each_is_defined_in_the_file(self):
        for name in PLAIN + PLACED + ("HouseError", "Wrong"):
            with self.subTest(name):
                self.assertEqual(getattr(errors, name).__module__, "letterhouse.errors")
                self.assertEqual(getattr(errors, name).__name__, name)

    def test_wrong_ones_are_made_with_a_row_and_a_place(self):
        for name in PLACED + ("Wrong",):
            with self.subTest(name):
                error = getattr(errors, name)(3, 61)
                self.assertEqual((error.line, error.place), (3, 61))

    def test_wrong_sets_its_own_fields(self):
        self.assertIn("__init__", vars(errors.Wrong))
        with self.assertRaises(TypeError):
            errors.Wrong()

    def test_each_tells_its_kind(self):
        self.assertEqual(errors.HouseError().kind, "houseerror")
        for name in PLAIN:
            self.assertEqual(getattr(errors, name)("why").kind, name.lower())
        for name in PLACED + ("Wrong",):
            self.assertEqual(getattr(errors, name)(1, 1).kind, name.lower())

    def test_plain_ones_have_no_place(self):
        for name in PLAIN:
            with self.subTest(name):
                self.assertFalse(hasattr(getattr(errors, name)("why"), "place"))


if __name__ == "__main__":
    unittest.main()
