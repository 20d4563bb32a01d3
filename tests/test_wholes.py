"""Whole numbers (point 2): an int that is no truth."""

import unittest

from bellsaway.wholes import is_whole, is_whole_between, is_whole_from

OTHERS = (True, False, None, "", "1", [], [1], (), (1,), {}, {1: 1}, object())


class Wholes(unittest.TestCase):
    def test_ints_are(self):
        for number in (0, 1, -1, 10 ** 13, -(10 ** 60)):
            self.assertIs(is_whole(number), True)

    def test_truths_and_others_are_not(self):
        for thing in OTHERS:
            with self.subTest(thing=thing):
                self.assertIs(is_whole(thing), False)

    def test_between_takes_both_bounds_in(self):
        told = [number for number in range(-5, 6) if is_whole_between(number, -2, 3)]
        self.assertEqual(told, [-2, -1, 0, 1, 2, 3])

    def test_truths_and_others_are_between_nothing(self):
        for thing in OTHERS:
            with self.subTest(thing=thing):
                self.assertIs(is_whole_between(thing, -9, 9), False)

    def test_from_takes_its_bound_in(self):
        self.assertEqual([number for number in range(-5, 6) if is_whole_from(number, 3)], [3, 4, 5])
        self.assertIs(is_whole_from(10 ** 60, 0), True)

    def test_truths_and_others_are_from_nothing(self):
        for thing in OTHERS:
            with self.subTest(thing=thing):
                self.assertIs(is_whole_from(thing, -9), False)


if __name__ == "__main__":
    unittest.main()
