"""What tests of refusals share."""

import unittest

from farpage import errors

NAMES = ("NoPage", "NoWords", "NoTelling", "NoFrame", "NoPiece", "NoName", "NoEnds", "NoCall", "NoSaying")


class RefusalCase(unittest.TestCase):
    def assert_refused(self, due, function, *arguments):
        """The call is refused with the error due, which is caught as FarError and ValueError and is no other one."""
        for caught in (due, errors.FarError, ValueError):
            with self.assertRaises(caught, msg=arguments) as held:
                function(*arguments)
        for name in NAMES:
            other = getattr(errors, name)
            self.assertEqual(isinstance(held.exception, other), other is due, name)
