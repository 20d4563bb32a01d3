"""Names (point 2) and happenings (point 8)."""

import unittest

import helper
from bellsaway.errors import NoHappening
from bellsaway.happenings import Happening, is_name


class Names(helper.Case):
    def test_texts_of_one_to_eight_small_letters_are(self):
        for name in ("a", "z", "m", "fire", "abcdefgh", "zzzzzzzz", "aaaaaaaa", "any", "not", "kind", "by"):
            self.assertIs(is_name(name), True)

    def test_each_letter_is_and_no_other_sign_is(self):
        for code in range(32, 127):
            sign = chr(code)
            with self.subTest(sign=sign):
                self.assertIs(is_name(sign), sign in helper.LETTERS)
                self.assertIs(is_name("a" + sign), sign in helper.LETTERS)
                self.assertIs(is_name(sign + "a"), sign in helper.LETTERS)

    def test_each_length(self):
        for length in range(0, 20):
            self.assertIs(is_name("q" * length), length in range(1, 9))

    def test_letters_of_other_writings_are_none(self):
        for sign in ("\u00e4", "\u00df", "\u0430", "\uff41", "\u00aa"):
            self.assertIs(is_name(sign), False)

    def test_all_else_is_none(self):
        for thing in helper.bad_names():
            with self.subTest(thing=thing):
                self.assertIs(is_name(thing), False)


class Happenings(helper.Case):
    def test_fields(self):
        for parts in (("fire", "hall", 3), ("a", "a", 0), ("zzzzzzzz", "abcdefgh", 999999), ("not", "any", 10 ** 13)):
            made = Happening(*parts)
            self.assertIs(type(made), Happening)
            self.assert_fields(made, ("kind", "place", "weight"), parts)

    def test_each_has_its_own_fields(self):
        first = Happening("fire", "hall", 3)
        second = Happening("flood", "yard", 4)
        self.assert_fields(first, ("kind", "place", "weight"), ("fire", "hall", 3))
        self.assert_fields(second, ("kind", "place", "weight"), ("flood", "yard", 4))

    def test_refused_at_each_place(self):
        for bad in helper.bad_names():
            self.assert_refused(NoHappening, Happening, bad, "hall", 3)
            self.assert_refused(NoHappening, Happening, "fire", bad, 3)
        for bad in helper.bad_wholes(0):
            self.assert_refused(NoHappening, Happening, "fire", "hall", bad)

    def test_refused_at_several_places(self):
        for bad in helper.THINGS:
            if not helper.is_plain_name(bad):
                self.assert_refused(NoHappening, Happening, bad, bad, 3)
                self.assert_refused(NoHappening, Happening, bad, bad, -1)
                self.assert_refused(NoHappening, Happening, bad, "hall", None)


if __name__ == "__main__":
    unittest.main()
