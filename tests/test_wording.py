"""Fits, lines and wishes as texts, and read to the same (points 16 to 18)."""

import random
import unittest

import helper
from bellsaway.fits import Any, Both, Either, Kind, Least, Not, Place
from bellsaway.ways import Day, Hour, Never, Now
from bellsaway.wishes import Line, Raised, Wishes
from bellsaway.wording import read_fit, read_line, read_wishes, show_fit, show_line, show_wishes


class Case(helper.Case):
    def assert_both_ways(self, thing, text, show, read):
        with self.subTest(text=text):
            self.assertEqual(show(thing), text)
            self.assertIs(type(show(thing)), str)
            found = read(text)
            self.assertEqual(helper.taken_apart(found), helper.taken_apart(thing))
            self.assertEqual(show(found), text)


class Fits(Case):
    def test_written_out(self):
        for fit, text in (
            (Any(), "any"),
            (Kind(["fire"]), "kind fire"),
            (Kind(["fire", "any", "not"]), "kind fire any not"),
            (Place(["hall", "a"]), "place hall a"),
            (Least(0), "weight 0"),
            (Least(30), "weight 30"),
            (Not(Any()), "not any"),
            (Not(Not(Least(3))), "not not weight 3"),
            (Both([Kind(["fire", "flood"]), Not(Least(3))]), "( kind fire flood & not weight 3 )"),
            (Either([Any(), Any(), Any()]), "( any | any | any )"),
            (Not(Either([Place(["by"]), Both([Any(), Least(1)])])), "not ( place by | ( any & weight 1 ) )"),
            (Both([Either([Any(), Any()]), Either([Any(), Any()])]), "( ( any | any ) & ( any | any ) )"),
            (Both([Both([Any(), Any()]), Any()]), "( ( any & any ) & any )"),
            (Both([Any(), Both([Any(), Any()])]), "( any & ( any & any ) )"),
            (Kind(["not", "kind", "weight", "place"]), "kind not kind weight place"),
        ):
            self.assert_both_ways(fit, text, show_fit, read_fit)

    def test_numbers(self):
        for number in helper.NUMBERS:
            self.assert_both_ways(Least(number), "weight {}".format(number), show_fit, read_fit)

    def test_each_name_that_is_a_word(self):
        for word in helper.WORDS:
            self.assert_both_ways(Kind([word]), "kind " + word, show_fit, read_fit)
            fit = Both([Not(Place([word, "b"])), Kind(["b", word])])
            self.assert_both_ways(fit, "( not place {0} b & kind b {0} )".format(word), show_fit, read_fit)

    def test_at_random(self):
        chance = random.Random(18)
        for turn in range(500):
            shape = helper.any_shape(chance, turn % 6, helper.WORDS[:6], helper.NUMBERS)
            self.assert_both_ways(helper.made(shape), helper.text_of(shape), show_fit, read_fit)

    def test_sixty_parts_and_twelve_deep(self):
        names = tuple(first + second for first in "abcdef" for second in "abcdefghij")
        self.assert_both_ways(Kind(list(names)), "kind " + " ".join(names), show_fit, read_fit)
        for wrap in (lambda s: ("not", s), lambda s: ("both", (s, ("any",))), lambda s: ("either", (("any",), s))):
            shape = ("least", 5)
            for step in range(12):
                shape = wrap(shape)
            self.assert_both_ways(helper.made(shape), helper.text_of(shape), show_fit, read_fit)


class Lines(Case):
    def test_written_out(self):
        for line, text in (
            (Line(Kind(["fire"]), Now(), ["pager", "mail"], True, Raised(10, 3, "boss")),
             "kind fire : now by 2 pager mail sure raise 10 3 boss"),
            (Line(Any(), Never(), []), "any : never"),
            (Line(Any(), Now(), ["mail"]), "any : now by 1 mail"),
            (Line(Any(), Hour(5), ["mail"]), "any : hour 5 by 1 mail"),
            (Line(Any(), Day(480), ["mail"]), "any : day 480 by 1 mail"),
            (Line(Any(), Hour(0), ["mail"], True), "any : hour 0 by 1 mail sure"),
            (Line(Any(), Day(1439), ["mail"], False, Raised(1, 0)), "any : day 1439 by 1 mail raise 1 0"),
            (Line(Any(), Now(), ["sure"]), "any : now by 1 sure"),
            (Line(Any(), Now(), ["sure"], True), "any : now by 1 sure sure"),
            (Line(Any(), Now(), ["raise", "sure"], True, Raised(1, 2, "raise")),
             "any : now by 2 raise sure sure raise 1 2 raise"),
            (Line(Any(), Now(), ["by"], False, Raised(1, 2, "sure")), "any : now by 1 by raise 1 2 sure"),
            (Line(Kind(["now", "by"]), Now(), ["now"]), "kind now by : now by 1 now"),
            (Line(Both([Kind(["fire", "flood"]), Not(Least(3))]), Never(), []),
             "( kind fire flood & not weight 3 ) : never"),
        ):
            self.assert_both_ways(line, text, show_line, read_line)

    def test_at_random(self):
        chance = random.Random(17)
        for turn in range(600):
            parts = helper.any_line(chance)
            self.assert_both_ways(helper.made_line(parts), helper.line_text(parts), show_line, read_line)

    def test_many_roads(self):
        for count in (8, 9, 10, 11, 26):
            names = list(helper.LETTERS[:count])
            text = "any : now by {} {}".format(count, " ".join(names))
            self.assert_both_ways(Line(Any(), Now(), names), text, show_line, read_line)


class AllWishes(Case):
    def test_written_out(self):
        never = Line(Any(), Never(), [])
        for wishes, text in (
            (Wishes(), "zone 0"),
            (Wishes(-1439), "zone -1439"),
            (Wishes(1439), "zone 1439"),
            (Wishes(0, (1320, 420), 7, [never]), "zone 0 ; quiet 1320 420 7 ; any : never"),
            (Wishes(0, (1320, 420), None, [never]), "zone 0 ; quiet 1320 420 ; any : never"),
            (Wishes(0, (0, 1439)), "zone 0 ; quiet 0 1439"),
            (Wishes(0, (1439, 0), 0), "zone 0 ; quiet 1439 0 0"),
            (Wishes(-60, None, None, [never, never]), "zone -60 ; any : never ; any : never"),
            (Wishes(5, None, None, [Line(Kind(["quiet"]), Now(), ["zone"], True, Raised(1, 0)), never]),
             "zone 5 ; kind quiet : now by 1 zone sure raise 1 0 ; any : never"),
        ):
            self.assert_both_ways(wishes, text, show_wishes, read_wishes)

    def test_at_random(self):
        chance = random.Random(14)
        for turn in range(300):
            parts = helper.any_wishes(chance)
            self.assert_both_ways(helper.made_wishes(parts), helper.wishes_text(parts), show_wishes, read_wishes)

    def test_twenty_lines(self):
        chance = random.Random(20)
        parts = (0, (1, 2), 3, [helper.any_line(chance) for number in range(20)])
        self.assert_both_ways(helper.made_wishes(parts), helper.wishes_text(parts), show_wishes, read_wishes)

    def test_showing_changes_nothing(self):
        chance = random.Random(13)
        for turn in range(30):
            wishes = helper.made_wishes(helper.any_wishes(chance))
            before = helper.taken_apart(wishes)
            first = show_wishes(wishes)
            self.assertEqual(helper.taken_apart(wishes), before)
            self.assertEqual(show_wishes(wishes), first)

    def test_read_twice_nothing_is_shared(self):
        text = "zone 0 ; kind a b : now by 1 mail"
        one = read_wishes(text)
        other = read_wishes(text)
        one.lines[0].roads.append("bird")
        one.lines[0].fit.names.append("c")
        one.lines.clear()
        self.assertEqual(show_wishes(other), text)


if __name__ == "__main__":
    unittest.main()
