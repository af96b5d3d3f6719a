"""Tests of slackstrings.limits."""

import unittest

from slackstrings import limits

NUMBERS = {
    "MOST_PARTS": 6, "MOST_TIES": 10, "MOST_HOOKS": 4, "MOST_STRINGS": 6, "MOST_MOVES": 6,
    "MOST_HAULS": 3, "MOST_FACTS": 8, "MOST_AMOUNT": 1000000, "MOST_WISHES": 6, "MOST_DEPTH": 4,
    "MOST_OVERS": 8, "MOST_SIGHTS": 6, "MOST_GUARDS": 4,
}


class LimitsTest(unittest.TestCase):

    def test_each_name_has_its_number(self):
        self.assertEqual(len(NUMBERS), 13)
        for name, number in NUMBERS.items():
            with self.subTest(name=name):
                self.assertEqual(getattr(limits, name), number)
                self.assertIs(type(getattr(limits, name)), int)

    def test_there_are_no_other_limits(self):
        self.assertEqual({name for name in dir(limits) if name.startswith("MOST_")}, set(NUMBERS))
