"""Lists of unlike names, names that are not among others (point 2), numbers as words and texts word by word (16)."""

import unittest

import helper
from bellsaway.errors import NoText
from bellsaway.words import Words, are_unlike_names, counted_name, is_number, unused_name


class UnlikeNames(helper.Case):
    def test_lists_of_unlike_names_are(self):
        for names in ([], ["a"], ["fire", "flood"], ["b", "a"], ["abcdefgh", "abcdefg"], ["not", "any"]):
            self.assertIs(are_unlike_names(names), True)

    def test_all_else_is_not(self):
        for thing in helper.bad_name_lists():
            with self.subTest(thing=thing):
                self.assertIs(are_unlike_names(thing), False)


class OtherNames(helper.Case):
    def test_each_number_has_a_name_of_its_own(self):
        names = [counted_name(number) for number in range(2000)]
        self.assertEqual(len(set(names)), 2000)
        self.assertTrue(all(helper.is_plain_name(name) for name in names))
        self.assertEqual([names[0], names[25], names[26], names[675], names[676]], ["a", "z", "ba", "zz", "baa"])

    def test_it_is_not_among_those_taken(self):
        for count in (0, 1, 25, 26, 27, 60, 700):
            taken = {counted_name(number): True for number in range(count)}
            self.assertNotIn(unused_name(taken), taken)
            self.assertTrue(helper.is_plain_name(unused_name(taken)))

    def test_a_gap_is_found(self):
        self.assertEqual(unused_name({"a": True, "c": True}), "b")
        self.assertEqual(unused_name({"b": True}), "a")


class Numbers(helper.Case):
    def test_each_number_is_read_from_its_figures(self):
        for number in (0, 1, 9, 10, 100, 999999, 10 ** 59, 10 ** 60 - 1, -1, -9, -10, -(10 ** 60) + 1):
            self.assertIs(is_number(str(number)), True)
            found = Words(str(number)).take_number()
            self.assertIs(type(found), int)
            self.assertEqual(found, number)

    def test_all_else_is_none(self):
        for word in ("", "-", "-0", "00", "01", "-01", "+1", "--1", "1-", "1.0", " 1", "1 ", "1\n", "a", "1a", "0x1",
                     "1_0", "\u0661", "\u00b2", "\uff11", "1" * 61, "-" + "1" * 61, "0" * 60):
            with self.subTest(word=word):
                self.assertIs(is_number(word), False)

    def test_each_sign_beside_a_figure(self):
        for code in range(32, 127):
            self.assertIs(is_number("1" + chr(code)), chr(code).isdigit())


class WordByWord(helper.Case):
    def test_words_are_taken_one_by_one(self):
        words = Words("by 2 a b")
        self.assertEqual(words.look(), "by")
        self.assertIs(words.takes("a"), False)
        self.assertIs(words.takes("by"), True)
        self.assertEqual(words.take_some(words.take_number()), ["a", "b"])
        self.assertIs(words.is_ended(), True)
        self.assertEqual(words.look(), "")
        self.assertIs(words.takes("b"), False)

    def test_names_go_on_up_to_what_is_none(self):
        words = Words("not any 3 a")
        self.assertEqual(words.take_names(), ["not", "any"])
        self.assertEqual(words.take_names(), [])
        self.assertEqual(words.take_number(), 3)
        self.assertEqual(words.take_names(), ["a"])
        self.assertEqual(words.take_names(), [])

    def test_some_are_there_or_refused(self):
        for count in (-1, 4, 10 ** 60):
            self.assert_refused(NoText, Words("a b c").take_some, count)
        begun = Words("a b c")
        begun.take()
        self.assert_refused(NoText, begun.take_some, 3)
        self.assertEqual(begun.take_some(2), ["b", "c"])
        self.assertEqual(Words("a b c").take_some(0), [])
        self.assertEqual(Words("a b c").take_some(3), ["a", "b", "c"])

    def test_another_word_than_expected(self):
        self.assert_refused(NoText, Words("a").expect, "b")
        self.assert_refused(NoText, Words("a").take_number)

    def test_the_end(self):
        words = Words("a")
        self.assert_refused(NoText, words.expect_end)
        words.take()
        self.assertIsNone(words.expect_end())
        words.take()
        self.assert_refused(NoText, words.expect_end)

    def test_counts(self):
        for number in (0, 1, 10 ** 60 - 1):
            self.assertEqual(Words(str(number)).take_count(), number)
        for word in ("-1", "-0", "", "01", "a", "-10"):
            self.assert_refused(NoText, Words(word).take_count)

    def test_one_name(self):
        words = Words("ann not b")
        self.assertEqual([words.take_name(), words.take_name(), words.take_name()], ["ann", "not", "b"])
        self.assert_refused(NoText, words.take_name)
        for word in helper.NO_NAMES:
            if " " not in word:
                self.assert_refused(NoText, Words(word).take_name)

    def test_one_of_some(self):
        self.assertEqual(Words("b a").take_one_of(("a", "b")), "b")
        self.assertEqual(Words("b a").take_one_of({"b": 1}), "b")
        for text in ("", "c", "B", "ab", "b\n"):
            self.assert_refused(NoText, Words(text).take_one_of, ("a", "b"))

    def test_the_rest(self):
        words = Words("a b  c")
        words.take()
        self.assertEqual(words.take_rest(), ["b", "", "c"])
        self.assertIs(words.is_ended(), True)
        self.assertEqual(words.take_rest(), [])
        words.take()
        self.assert_refused(NoText, words.take_rest)

    def test_a_word_taken_behind_the_end_is_no_end(self):
        words = Words("a")
        words.take()
        self.assertEqual(words.take(), "")
        self.assertIs(words.is_ended(), False)


if __name__ == "__main__":
    unittest.main()
