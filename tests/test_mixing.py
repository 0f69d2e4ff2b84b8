import math
import unittest
from fractions import Fraction

from helper import MOST, NO_LEVELS, NO_WORTHS, arguments_of, refused
from lampcues.errors import NoWorth
from lampcues.mixing import amount, lowered

WORTHS = (0, 1, 2, 3, 7, 99, 255, 500, 999, 1000, 1001, 1999, 65535, 123456789, MOST - 1, MOST)
LEVELS = (0, 1, 2, 3, 250, 333, 499, 500, 501, 667, 750, 998, 999, 1000)


class Amount(unittest.TestCase):
    def test_some(self):
        self.assertEqual(amount(200, 500), 100)
        self.assertEqual(amount(255, 500), 127)
        self.assertEqual(amount(7, 1000), 7)
        self.assertEqual(amount(7, 0), 0)
        self.assertEqual(amount(0, 1000), 0)

    def test_whole_steps_alone(self):
        self.assertEqual([amount(1, level) for level in (0, 1, 500, 999, 1000)], [0, 0, 0, 0, 1])
        self.assertEqual([amount(3, level) for level in (333, 334, 666, 667, 999, 1000)], [0, 1, 1, 2, 2, 3])
        self.assertEqual([amount(worth, 999) for worth in (999, 1000, 1001, 2000)], [998, 999, 999, 1998])

    def test_each_level_of_a_thousand(self):
        self.assertEqual([amount(1000, level) for level in range(1001)], list(range(1001)))

    def test_against_fractions(self):
        for worth in WORTHS:
            for level in LEVELS:
                self.assertEqual(amount(worth, level), math.floor(Fraction(level, 1000) * worth), (worth, level))

    def test_great_worths_are_told_to_the_step(self):
        self.assertEqual(amount(MOST, 1000), MOST)
        self.assertEqual(amount(MOST - 1, 999), 998999999)
        self.assertEqual(amount(999999999, 1), 999999)


class Lowered(unittest.TestCase):
    def test_some(self):
        self.assertEqual(lowered(200, 500), 100)
        self.assertEqual(lowered(255, 250), 191)
        self.assertEqual(lowered(7, 0), 7)
        self.assertEqual(lowered(7, 1000), 0)
        self.assertEqual(lowered(0, 0), 0)

    def test_what_is_left_is_rounded_down_not_what_goes(self):
        self.assertEqual([lowered(1, down) for down in (0, 1, 500, 999, 1000)], [1, 0, 0, 0, 0])
        self.assertEqual([lowered(3, down) for down in (0, 1, 333, 334, 666, 667)], [3, 2, 2, 1, 1, 0])

    def test_each_down_of_a_thousand(self):
        self.assertEqual([lowered(1000, down) for down in range(1001)], list(range(1000, -1, -1)))

    def test_against_fractions(self):
        for worth in WORTHS:
            for down in LEVELS:
                left = worth - worth * Fraction(down, 1000)
                self.assertEqual(lowered(worth, down), math.floor(left), (worth, down))

    def test_great_worths_are_told_to_the_step(self):
        self.assertEqual(lowered(MOST, 0), MOST)
        self.assertEqual(lowered(MOST - 1, 1), 998999999)


class Both(unittest.TestCase):
    def test_arguments(self):
        self.assertEqual(arguments_of(amount), ["worth", "level"])
        self.assertEqual(arguments_of(lowered), ["worth", "down"])
        self.assertEqual(amount(level=250, worth=8), 2)
        self.assertEqual(lowered(down=250, worth=8), 6)

    def test_whole_numbers_are_told(self):
        for call in (amount, lowered):
            self.assertIs(type(call(7, 3)), int)

    def test_no_worths_are_refused(self):
        for thing in NO_WORTHS:
            refused(self, NoWorth, amount, thing, 5)
            refused(self, NoWorth, lowered, thing, 5)

    def test_no_levels_are_refused(self):
        for thing in NO_LEVELS:
            refused(self, NoWorth, amount, 5, thing)
            refused(self, NoWorth, lowered, 5, thing)
            refused(self, NoWorth, amount, 0, thing)
            refused(self, NoWorth, lowered, None, thing)


if __name__ == "__main__":
    unittest.main()
