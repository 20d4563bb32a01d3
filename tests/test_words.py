"""Lists of unlike names, and names that are not among others (point 2)."""

import unittest

import helper
from bellsaway.words import are_unlike_names, counted_name, unused_name


class UnlikeNames(helper.Case):
    def test_lists_of_unlike_names_are(self):
        for names in ([], ["a"], ["fire", "flood"], ["b", "a"], ["abcdefgh", "abcdefg"], ["not", "any"]):
            self.assertIs(are_unlike_names(names), True)

    def test_all_else_is_not(self):
        for thing in helper.bad_name_lists():
            with self.subTest(thing=thing):
                self.assertIs(are_unlike_names(thing), False)


class OtherNames(helper.Case):
    def test_each_number_has_a_name_of_its_own(self):
        names = [counted_name(number) for number in range(2000)]
        self.assertEqual(len(set(names)), 2000)
        self.assertTrue(all(helper.is_plain_name(name) for name in names))
        self.assertEqual([names[0], names[25], names[26], names[675], names[676]], ["a", "z", "ba", "zz", "baa"])

    def test_it_is_not_among_those_taken(self):
        for count in (0, 1, 25, 26, 27, 60, 700):
            taken = {counted_name(number): True for number in range(count)}
            self.assertNotIn(unused_name(taken), taken)
            self.assertTrue(helper.is_plain_name(unused_name(taken)))

    def test_a_gap_is_found(self):
        self.assertEqual(unused_name({"a": True, "c": True}), "b")
        self.assertEqual(unused_name({"b": True}), "a")


if __name__ == "__main__":
    unittest.main()
