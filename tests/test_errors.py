"""The refusals: the interface's row errors.py, and 0.3."""

import unittest

from floorfits import errors
from floorfits.errors import FloorError, NoFill, NoName, NoPlace, NoText, NoTile, Nothing, Unlike

BELOW = (NoPlace, NoTile, NoFill, Unlike, Nothing, NoText, NoName)


class Refusals(unittest.TestCase):
    def test_floor_error_is_a_value_error(self):
        self.assertTrue(issubclass(FloorError, ValueError))

    def test_all_stand_straight_below_it(self):
        for kind in BELOW:
            self.assertEqual(kind.__bases__, (FloorError,))

    def test_none_stands_below_another(self):
        for one in BELOW:
            for other in BELOW:
                self.assertEqual(issubclass(one, other), one is other)

    def test_they_can_be_raised_and_taken(self):
        for kind in BELOW:
            with self.assertRaises(FloorError):
                raise kind("words")

    def test_there_are_just_these_eight(self):
        told = {name for name, value in vars(errors).items() if isinstance(value, type)}
        self.assertEqual(told, {kind.__name__ for kind in BELOW} | {"FloorError"})


if __name__ == "__main__":
    unittest.main()
