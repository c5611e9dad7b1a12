"""The refusals, as the interface lists them."""

import unittest

from farpage import errors
from tests.helper import NAMES


class TestErrors(unittest.TestCase):
    def test_far_error_is_straight_under_value_error(self):
        self.assertEqual(errors.FarError.__bases__, (ValueError,))

    def test_each_refusal_is_straight_under_far_error(self):
        for name in NAMES:
            self.assertEqual(getattr(errors, name).__bases__, (errors.FarError,), name)

    def test_no_refusal_is_under_another_one(self):
        for name in NAMES:
            for other in NAMES:
                if name != other:
                    self.assertFalse(issubclass(getattr(errors, name), getattr(errors, other)), (name, other))

    def test_there_are_no_others(self):
        found = sorted(name for name, value in vars(errors).items() if isinstance(value, type))
        self.assertEqual(found, sorted(NAMES + ("FarError",)))

    def test_each_refusal_is_caught_as_far_error_and_value_error(self):
        for name in NAMES:
            for caught in (errors.FarError, ValueError):
                with self.assertRaises(caught):
                    raise getattr(errors, name)("why")


if __name__ == "__main__":
    unittest.main()
