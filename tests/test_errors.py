"""The error classes of the interface."""

import unittest

from pickedrelease.errors import (BadQuestion, BadReleases, BadRequirement, BadText, BadVersion, Missing, PickError)

PLACED = (BadRequirement, BadReleases, BadText)
TOLD = (BadVersion, BadQuestion)


class Errors(unittest.TestCase):

    def test_pick_error_stands_straight_under_value_error(self):
        self.assertEqual(PickError.__bases__, (ValueError,))

    def test_each_refusal_stands_straight_under_pick_error(self):
        for kind in PLACED + TOLD:
            self.assertEqual(kind.__bases__, (PickError,), kind)

    def test_no_class_is_another_one(self):
        kinds = PLACED + TOLD + (Missing, PickError)
        self.assertEqual(len(set(kinds)), 7)

    def test_missing_is_a_key_error_and_no_pick_error(self):
        self.assertEqual(Missing.__bases__, (KeyError,))
        self.assertFalse(issubclass(Missing, PickError))

    def test_each_class_is_defined_in_its_file(self):
        for kind in PLACED + TOLD + (Missing, PickError):
            self.assertEqual(kind.__module__, "pickedrelease.errors")

    def test_place_is_kept(self):
        for kind in PLACED:
            for place in ((), (0,), (11,)):
                error = kind(place)
                self.assertEqual(error.place, place)
                with self.assertRaises(PickError) as caught:
                    raise error
                self.assertEqual(caught.exception.place, place)

    def test_places_of_two_errors_are_apart(self):
        for kind in PLACED:
            one, other = kind((1,)), kind((2,))
            self.assertEqual((one.place, other.place), ((1,), (2,)))

    def test_a_text_makes_the_others(self):
        for kind in TOLD:
            with self.assertRaises(kind):
                raise kind("why")

    def test_name_is_kept_as_it_is_passed(self):
        for name in ("web", "", None, 3, ("a",)):
            error = Missing(name)
            self.assertEqual(error.name, name)
            with self.assertRaises(KeyError) as caught:
                raise error
            self.assertEqual(caught.exception.name, name)


if __name__ == "__main__":
    unittest.main()
