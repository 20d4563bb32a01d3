"""Raised, lines and wishes (points 12 to 14): their fields, and what is refused."""

import unittest

import helper
from bellsaway.errors import NoClock, NoWish
from bellsaway.fits import Any, Kind, Least
from bellsaway.happenings import Happening
from bellsaway.ways import Day, Hour, Never, Now, Way
from bellsaway.wishes import Line, Raised, Wishes

LINE = ("fit", "way", "roads", "sure", "raised")
WISHES = ("zone", "quiet", "wake", "lines")
BAD_QUIETS = (
    (-1, 60), (60, 1440), (5, 5), (True, 60), (60, False), (60,), (60, 120, 180), [60, 120], "60 120", 60, True, (),
    (None, 60), ("60", 120), {}, object(),
)
BAD_ZONES = (-1440, 1440, True, False, None, "0", [0], (0,), {}, object(), 10 ** 13)


def never():
    return Line(Any(), Never(), [])


class RaisedMade(helper.Case):
    def test_fields(self):
        self.assert_fields(Raised(10, 3, "boss"), ("minutes", "times", "to"), (10, 3, "boss"))
        self.assert_fields(Raised(1, 0), ("minutes", "times", "to"), (1, 0, None))
        self.assert_fields(Raised(999999, 999999, None), ("minutes", "times", "to"), (999999, 999999, None))
        self.assert_fields(Raised(1, 20, "sure"), ("minutes", "times", "to"), (1, 20, "sure"))
        self.assertIs(type(Raised(1, 0)), Raised)

    def test_refused_at_each_place(self):
        for bad in helper.bad_wholes(1):
            self.assert_refused(NoWish, Raised, bad, 3, "boss")
            self.assert_refused(NoWish, Raised, bad, 3)
        for bad in helper.bad_wholes(0):
            self.assert_refused(NoWish, Raised, 10, bad, "boss")
            self.assert_refused(NoWish, Raised, 10, bad)
        for bad in helper.bad_names():
            if bad is not None:
                self.assert_refused(NoWish, Raised, 10, 3, bad)

    def test_refused_at_several_places(self):
        self.assert_refused(NoWish, Raised, 0, -1, "Boss")
        self.assert_refused(NoWish, Raised, None, None, 0)


class LineMade(helper.Case):
    def test_fields(self):
        fit = Kind(["fire"])
        raised = Raised(10, 3)
        for way in (Now(), Hour(5), Day(480)):
            for sure in (True, False):
                for given in (raised, None):
                    made = Line(fit, way, ["pager", "mail"], sure, given)
                    self.assertIs(type(made), Line)
                    self.assert_fields(made, LINE, (fit, way, ["pager", "mail"], sure, given))
            self.assert_fields(Line(fit, way, ["a"]), LINE, (fit, way, ["a"], False, None))
            self.assert_fields(Line(fit, way, ["a"], True), LINE, (fit, way, ["a"], True, None))

    def test_fields_of_never(self):
        fit = Any()
        way = Never()
        self.assert_fields(Line(fit, way, []), LINE, (fit, way, [], False, None))
        self.assert_fields(Line(fit, way, [], False, None), LINE, (fit, way, [], False, None))

    def test_roads_changed_behind_it(self):
        roads = ["pager", "mail"]
        line = Line(Any(), Now(), roads)
        other = Line(Any(), Now(), roads)
        self.assertIsNot(line.roads, roads)
        self.assertIsNot(line.roads, other.roads)
        roads.append("bird")
        roads[0] = "PAGER"
        self.assertEqual(line.roads, ["pager", "mail"])
        empty = []
        line = Line(Any(), Never(), empty)
        empty.append("mail")
        self.assertEqual(line.roads, [])

    def test_what_is_handed_in_stays(self):
        roads = ["pager", "mail", "pager"]
        self.assert_refused(NoWish, Line, Any(), Now(), roads)
        self.assertEqual(roads, ["pager", "mail", "pager"])

    def test_refused_fits_and_ways(self):
        for bad in helper.THINGS + ([Any()], Now(), Now, Way, Happening("a", "a", 0)):
            self.assert_refused(NoWish, Line, bad, Now(), ["a"])
            self.assert_refused(NoWish, Line, bad, Never(), [])
        for bad in helper.THINGS + ([Now()], Any(), Now, Never, Way, "now", "never"):
            self.assert_refused(NoWish, Line, Any(), bad, ["a"])
            self.assert_refused(NoWish, Line, Any(), bad, [])

    def test_refused_roads(self):
        for way in (Now(), Hour(5), Day(480)):
            for bad in ([],) + helper.bad_name_lists():
                self.assert_refused(NoWish, Line, Any(), way, bad)
                self.assert_refused(NoWish, Line, Any(), way, bad, True, Raised(1, 0))

    def test_refused_roads_of_never(self):
        for bad in (["a"], ["fire", "flood"]) + helper.bad_name_lists():
            self.assert_refused(NoWish, Line, Any(), Never(), bad)

    def test_refused_sure(self):
        for bad in helper.THINGS:
            if bad is not True and bad is not False:
                self.assert_refused(NoWish, Line, Any(), Now(), ["a"], bad)
                self.assert_refused(NoWish, Line, Any(), Never(), [], bad)

    def test_refused_raised(self):
        for bad in helper.THINGS + ([Raised(1, 0)], (1, 0), (1, 0, None), Raised, Any(), Now()):
            if bad is not None:
                self.assert_refused(NoWish, Line, Any(), Now(), ["a"], False, bad)
                self.assert_refused(NoWish, Line, Any(), Never(), [], False, bad)

    def test_never_is_neither_sure_nor_raised(self):
        self.assert_refused(NoWish, Line, Any(), Never(), [], True)
        self.assert_refused(NoWish, Line, Any(), Never(), [], False, Raised(1, 0))
        self.assert_refused(NoWish, Line, Any(), Never(), [], True, Raised(1, 0))
        self.assert_refused(NoWish, Line, Any(), Never(), ["a"], True, Raised(1, 0))

    def test_refused_at_several_places(self):
        self.assert_refused(NoWish, Line, None, None, None, None, 0)
        self.assert_refused(NoWish, Line, Any(), None, [], True)


class WishesMade(helper.Case):
    def test_fields(self):
        lines = [never(), Line(Any(), Now(), ["a"])]
        for zone in (-1439, 0, 1439):
            for quiet, wake in ((None, None), ((0, 1439), None), ((1439, 0), 0), ((1320, 420), 999999)):
                made = Wishes(zone, quiet, wake, lines)
                self.assertIs(type(made), Wishes)
                self.assert_fields(made, WISHES, (zone, quiet, wake, lines))

    def test_what_is_left_out(self):
        self.assert_fields(Wishes(), WISHES, (0, None, None, []))
        self.assert_fields(Wishes(60), WISHES, (60, None, None, []))
        self.assert_fields(Wishes(60, (1, 2)), WISHES, (60, (1, 2), None, []))
        self.assert_fields(Wishes(60, (1, 2), 7), WISHES, (60, (1, 2), 7, []))
        self.assert_fields(Wishes(60, (1, 2), 7, None), WISHES, (60, (1, 2), 7, []))
        self.assert_fields(Wishes(60, (1, 2), 7, []), WISHES, (60, (1, 2), 7, []))

    def test_by_name(self):
        lines = [never()]
        self.assert_fields(Wishes(lines=lines), WISHES, (0, None, None, lines))
        self.assert_fields(Wishes(wake=3, quiet=(1, 2)), WISHES, (0, (1, 2), 3, []))
        self.assert_fields(Wishes(lines=lines, wake=3, quiet=(1, 2), zone=-5), WISHES, (-5, (1, 2), 3, lines))

    def test_those_without_lines_share_no_list(self):
        one = Wishes()
        self.assertIsNot(one.lines, Wishes().lines)

    def test_lines_changed_behind_it(self):
        line = Line(Least(5), Now(), ["a"])
        lines = [line]
        wishes = Wishes(lines=lines)
        self.assertIsNot(wishes.lines, lines)
        lines.append(never())
        lines[0] = never()
        self.assertEqual(wishes.lines, [line])
        self.assertIs(wishes.winning(Happening("a", "a", 5)), line)
        self.assertIsNone(wishes.winning(Happening("a", "a", 4)))
        self.assertIsNone(wishes.winner(1))
        lines.clear()
        self.assertEqual(wishes.lines, [line])

    def test_twenty_lines(self):
        lines = [never() for number in range(20)]
        self.assertEqual(Wishes(lines=lines).lines, lines)


class WishesRefused(helper.Case):
    def test_zone_and_quiet_hours(self):
        for bad in BAD_ZONES:
            self.assert_refused(NoClock, Wishes, bad)
            self.assert_refused(NoClock, Wishes, bad, (1, 2), 3, [never()])
        for bad in BAD_QUIETS:
            self.assert_refused(NoClock, Wishes, 0, bad)
            self.assert_refused(NoClock, Wishes, 0, bad, 3, [never()])
            self.assert_refused(NoClock, Wishes, 1440, bad)

    def test_wake(self):
        for bad in helper.bad_wholes(0) + ([0], (0,), Least(0)):
            if bad is not None:
                self.assert_refused(NoWish, Wishes, 0, (1, 2), bad)
                self.assert_refused(NoWish, Wishes, 0, None, bad)

    def test_wake_without_quiet_hours(self):
        for wake in (0, 1, 999999):
            self.assert_refused(NoWish, Wishes, 0, None, wake)
            self.assert_refused(NoWish, Wishes, 0, None, wake, [never()])

    def test_lines(self):
        for bad in helper.THINGS + ((never(),), never(), Line, Any(), {1: never()}):
            if bad is not None and bad != []:
                self.assert_refused(NoWish, Wishes, 0, None, None, bad)
                self.assert_refused(NoWish, Wishes, 0, (1, 2), 3, bad)

    def test_one_that_is_no_line_at_each_place(self):
        for bad in helper.THINGS + (Any(), Now(), Wishes(), Line, [never()], "any : never"):
            for wrong in ([bad], [bad, never()], [never(), bad], [never(), bad, never()]):
                kept = list(wrong)
                self.assert_refused(NoWish, Wishes, 0, None, None, wrong)
                self.assertEqual(wrong, kept)

    def test_clocks_are_looked_at_first(self):
        for wake in (-1, "7", True, 3):
            for lines in (None, [never()], [None], "lines", (never(),)):
                for bad in BAD_ZONES:
                    self.assert_refused(NoClock, Wishes, bad, None, wake, lines)
                    self.assert_refused(NoClock, Wishes, bad, (1, 2), wake, lines)
                for bad in BAD_QUIETS:
                    self.assert_refused(NoClock, Wishes, 0, bad, wake, lines)

    def test_wake_and_lines_both(self):
        self.assert_refused(NoWish, Wishes, 0, (1, 2), -1, [None])
        self.assert_refused(NoWish, Wishes, 0, None, 0, "lines")


if __name__ == "__main__":
    unittest.main()
