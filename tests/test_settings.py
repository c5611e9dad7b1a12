"""Promise 21, and 2 of it: settings, and what two can agree on."""

import itertools
import unittest

from farpage.settings import agreed, is_setting
from tests.helper import NO_TEXTS

GOOD = (32, 2, 3, True)
ALL_PARTS = [(8, 9, 33, 63, 64), (1, 2, 4), (1, 2, 3, 4), (True, False)]
WRONG_PARTS = [
    (7, 65, 0, -8, -64, 10 ** 30 - 1, True, False, None, "8", "", [8], (8,), [], ()),
    (0, 3, 5, 6, 8, -1, -2, -4, True, False, None, "1", [1], (1,), (1, 2, 4)),
    (0, 5, -1, 16, True, False, None, "1", [1], (1,)),
    (0, 1, -1, None, "True", "", "mends", [True], (True,), [], ()),
]


class TestIsSetting(unittest.TestCase):
    def test_bounds(self):
        for setting in itertools.product(*ALL_PARTS):
            self.assertIs(is_setting(setting), True, setting)

    def test_all_breadths(self):
        for breadth in range(-2, 80):
            self.assertIs(is_setting((breadth, 1, 1, False)), 8 <= breadth <= 64, breadth)

    def test_wrong_parts(self):
        for place, wrongs in enumerate(WRONG_PARTS):
            for wrong in wrongs:
                setting = GOOD[:place] + (wrong,) + GOOD[place + 1:]
                self.assertIs(is_setting(setting), False, setting)

    def test_a_truth_is_no_number(self):
        self.assertIs(is_setting((8, True, 1, True)), False)
        self.assertIs(is_setting((8, 1, True, True)), False)
        self.assertIs(is_setting((8, 1, 1, 1)), False)
        self.assertIs(is_setting((8, 1, 1, 0)), False)

    def test_other_sizes(self):
        for many in range(4):
            self.assertIs(is_setting(GOOD[:many]), False)
        self.assertIs(is_setting(GOOD + (True,)), False)
        self.assertIs(is_setting(GOOD + (None,)), False)
        self.assertIs(is_setting(GOOD + GOOD), False)

    def test_other_things(self):
        for thing in NO_TEXTS + [list(GOOD), (GOOD,), [GOOD], "", "setting", "(8, 1, 1, True)", GOOD[::-1]]:
            self.assertIs(is_setting(thing), False, thing)


class TestAgreed(unittest.TestCase):
    def settings(self):
        return list(itertools.product((8, 31, 64), (1, 2, 4), (1, 3, 4), (True, False)))

    def test_by_hand(self):
        self.assertEqual(agreed((64, 1, 4, True), (8, 4, 2, True)), (8, 1, 2, True))
        self.assertEqual(agreed((9, 4, 1, True), (10, 2, 3, False)), (9, 2, 1, False))
        self.assertEqual(agreed((9, 4, 1, False), (10, 2, 3, True)), (9, 2, 1, False))
        self.assertEqual(agreed((8, 1, 1, False), (64, 4, 4, False)), (8, 1, 1, False))

    def test_all(self):
        for one, other in itertools.product(self.settings(), repeat=2):
            told = agreed(one, other)
            due = tuple(sorted(pair)[0] for pair in zip(one[:3], other[:3])) + ((one[3], other[3]) == (True, True),)
            self.assertEqual(told, due, (one, other))
            self.assertIs(told[3], due[3])
            self.assertIs(is_setting(told), True)
            self.assertEqual(agreed(other, one), due)
            for again in (one, other, told):
                self.assertEqual(agreed(told, again), due)
                self.assertEqual(agreed(again, told), due)

    def test_with_itself(self):
        for one in self.settings():
            self.assertEqual(agreed(one, one), one)


if __name__ == "__main__":
    unittest.main()
