"""What is no zone, no quiet hours and no minute is refused with NoClock (point 7), and nothing is changed (2)."""

import copy
import unittest

from bellsaway import clocks, errors

OTHER_KINDS = (True, False, "", "0", "zone", [], [0], [60, 120], (), (1,), (0,), (1, 2, 3), {}, {0: 1}, object())
BAD_ZONES = (-1440, 1440, -1441, 1441, -(10 ** 13), 10 ** 13, None, (60, 120)) + OTHER_KINDS
BAD_MINUTES_OF_HOUR = (-1, 60, -2, 61, 1439, -(10 ** 13), 10 ** 13, None, (60, 120)) + OTHER_KINDS
BAD_MINUTES_OF_DAY = (-1, 1440, -2, 1441, -(10 ** 13), 10 ** 13, None, (60, 120)) + OTHER_KINDS
BAD_QUIETS = (
    (-1, 60), (60, -1), (1440, 60), (60, 1440), (-(10 ** 13), 60), (60, 10 ** 13),
    (0, 0), (60, 60), (1439, 1439), (True, 60), (60, True), (False, 60), (60, False), (True, False),
    (None, 60), (60, None), (None, None), ("60", 120), (60, "120"), ([60], 120), (60, [120]), ((60,), 120),
    (60, 120, 180), (60, 120, None), (60,), 0, 60, -1, 10 ** 13, "60 120", [60, 120], {60: 120}, "ab",
) + OTHER_KINDS

GOOD = {"zone": 60, "quiet": (60, 120), "hour": 5, "day": 480, "moment": 90, "later": 5000}
BAD = {"zone": BAD_ZONES, "quiet": BAD_QUIETS, "hour": BAD_MINUTES_OF_HOUR, "day": BAD_MINUTES_OF_DAY}
FUNCTIONS = (
    (clocks.shown, ("moment", "zone")),
    (clocks.is_quiet, ("quiet", "zone", "moment")),
    (clocks.loud_from, ("quiet", "zone", "moment")),
    (clocks.quiet_count, ("quiet", "zone", "moment", "later")),
    (clocks.next_hour, ("hour", "zone", "moment")),
    (clocks.next_day, ("day", "zone", "moment")),
)
OTHERS = (
    errors.NoHappening, errors.NoFit, errors.NoWish, errors.NoRoad, errors.NoTime, errors.NoRow,
    errors.Backward, errors.NoNumber, errors.Fallen, errors.NoBook, errors.NoText,
)


class Refusals(unittest.TestCase):
    def assert_refused(self, function, arguments):
        with self.subTest(function=function.__name__, arguments=arguments):
            with self.assertRaises(errors.NoClock) as taken:
                function(*arguments)
            self.assertIsInstance(taken.exception, errors.BellError)
            self.assertIsInstance(taken.exception, ValueError)
            self.assertNotIsInstance(taken.exception, OTHERS)

    def test_the_good_ones_are_answered(self):
        for function, names in FUNCTIONS:
            function(*[GOOD[name] for name in names])

    def test_each_argument_in_turn(self):
        for function, names in FUNCTIONS:
            for place, name in enumerate(names):
                for bad in BAD.get(name, ()):
                    arguments = [GOOD[other] for other in names]
                    arguments[place] = bad
                    self.assert_refused(function, arguments)

    def test_two_bad_ones(self):
        for function, names in FUNCTIONS:
            if len([name for name in names if name in BAD]) == 2:
                for first in BAD[names[0]]:
                    for second in (-1440, 1440, True, None, "0", [0], (0,)):
                        arguments = [GOOD[name] for name in names]
                        arguments[0] = first
                        arguments[1] = second
                        self.assert_refused(function, arguments)

    def test_a_bad_zone_without_quiet_hours(self):
        for zone in BAD_ZONES:
            self.assert_refused(clocks.is_quiet, (None, zone, 0))
            self.assert_refused(clocks.loud_from, (None, zone, 0))
            self.assert_refused(clocks.quiet_count, (None, zone, 0, 1440))

    def test_a_count_of_nothing_is_refused_all_the_same(self):
        for quiet in BAD_QUIETS:
            self.assert_refused(clocks.quiet_count, (quiet, 0, 5, 5))
            self.assert_refused(clocks.quiet_count, (quiet, 0, 6, 5))
        for zone in BAD_ZONES:
            self.assert_refused(clocks.quiet_count, ((60, 120), zone, 5, 5))
            self.assert_refused(clocks.quiet_count, ((60, 120), zone, 6, 5))

    def test_bad_quiet_hours_at_loud_and_quiet_moments(self):
        for moment in (-1, 0, 60, 90, 700, 1439):
            for quiet in BAD_QUIETS:
                self.assert_refused(clocks.is_quiet, (quiet, 0, moment))
                self.assert_refused(clocks.loud_from, (quiet, 0, moment))

    def test_the_bounds_themselves_are_taken(self):
        for zone in (-1439, 1439):
            for function, names in FUNCTIONS:
                function(*[zone if name == "zone" else GOOD[name] for name in names])
        for minute in (0, 59):
            clocks.next_hour(minute, 0, 0)
        for minute in (0, 1439):
            clocks.next_day(minute, 0, 0)
        for quiet in ((0, 1439), (1439, 0)):
            clocks.is_quiet(quiet, 0, 0)
            clocks.loud_from(quiet, 0, 0)
            clocks.quiet_count(quiet, 0, 0, 1)


class NothingChanged(unittest.TestCase):
    def test_what_is_handed_in_stays(self):
        for bad in ([60, 120], [0], {0: 1}, ([60], 120)):
            before = copy.deepcopy(bad)
            for function, names in FUNCTIONS:
                for place, name in enumerate(names):
                    if name in BAD:
                        arguments = [GOOD[other] for other in names]
                        arguments[place] = bad
                        with self.assertRaises(errors.NoClock):
                            function(*arguments)
            self.assertEqual(bad, before)

    def test_a_refusal_changes_no_later_answer(self):
        for function, names in FUNCTIONS:
            good = [GOOD[name] for name in names]
            before = function(*good)
            for bad in BAD_ZONES:
                with self.assertRaises(errors.NoClock):
                    function(*[bad if name == "zone" else GOOD[name] for name in names])
            self.assertEqual(function(*good), before)


if __name__ == "__main__":
    unittest.main()
