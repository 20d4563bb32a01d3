"""Whole numbers (point 2): an int that is no truth."""

import unittest

from bellsaway.wholes import is_whole, is_whole_between

OTHERS = (True, False, None, "", "1", [], [1], (), (1,), {}, {1: 1}, object())


class Wholes(unittest.TestCase):
    def test_ints_are(self):
        for number in (0, 1, -1, 10 ** 13, -(10 ** 60)):
            self.assertIs(is_whole(number), True)

    def test_truths_and_others_are_not(self):
        for thing in OTHERS:
            with self.subTest(thing=thing):
                self.assertIs(is_whole(thing), False)

    def test_between_takes_both_bounds_in(self):
        told = [number for number in range(-5, 6) if is_whole_between(number, -2, 3)]
        self.assertEqual(told, [-2, -1, 0, 1, 2, 3])

    def test_truths_and_others_are_between_nothing(self):
        for thing in OTHERS:
            with self.subTest(thing=thing):
                self.assertIs(is_whole_between(thing, -9, 9), False)


if __name__ == "__main__":
    unittest.main()
