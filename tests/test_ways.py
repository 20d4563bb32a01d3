"""Ways (point 11): their moments, which are gathered, and what is refused."""

import unittest

import helper
from bellsaway.errors import NoClock
from bellsaway.ways import Day, Hour, Never, Now, Way

FOUR = (Now, Hour, Day, Never)
ZONES = (-1439, -721, -60, -1, 0, 1, 59, 330, 1438, 1439)
MOMENTS = (-10 ** 13 + 1, -1441, -1440, -61, -1, 0, 1, 59, 60, 61, 479, 480, 481, 1439, 1440, 10 ** 13 - 1)


def bad_minutes(most):
    return (most + 1, most + 2, -1, -2) + tuple(
        thing for thing in helper.THINGS if type(thing) is not int or not 0 <= thing <= most
    )


def bad_zones():
    return (-1440, 1440, 1441) + tuple(
        thing for thing in helper.THINGS if type(thing) is not int or not -1439 <= thing <= 1439
    )


class Made(helper.Case):
    def test_class_and_fields(self):
        for way, class_, names, told in (
            (Now(), Now, (), ()), (Never(), Never, (), ()),
            (Hour(0), Hour, ("minute",), (0,)), (Hour(59), Hour, ("minute",), (59,)),
            (Day(0), Day, ("minute",), (0,)), (Day(1439), Day, ("minute",), (1439,)),
        ):
            self.assertIs(type(way), class_)
            self.assertIsInstance(way, Way)
            self.assertEqual([other for other in FOUR if isinstance(way, other)], [class_])
            self.assert_fields(way, names, told)

    def test_which_are_gathered(self):
        for way, told in ((Now(), False), (Never(), False), (Hour(0), True), (Hour(59), True), (Day(0), True)):
            self.assertIs(way.is_gathered(), told)

    def test_minutes_that_are_none(self):
        for bad in bad_minutes(59):
            self.assert_refused(NoClock, Hour, bad)
        for bad in bad_minutes(1439):
            self.assert_refused(NoClock, Day, bad)

    def test_each_minute_is_taken(self):
        self.assertEqual([Hour(minute).minute for minute in range(60)], list(range(60)))
        self.assertEqual([Day(minute).minute for minute in range(1440)], list(range(1440)))


class Moments(helper.Case):
    def test_now_is_the_moment_itself(self):
        for zone in ZONES:
            for moment in MOMENTS:
                self.assertEqual(Now().moment_from(moment, zone), moment)

    def test_never_is_none(self):
        for zone in ZONES:
            for moment in MOMENTS:
                self.assertIsNone(Never().moment_from(moment, zone))

    def test_hours_as_walked(self):
        for minute in (0, 1, 30, 58, 59):
            for zone in ZONES:
                for moment in MOMENTS:
                    walked = moment
                    while (walked + zone) % 1440 % 60 != minute:
                        walked += 1
                    self.assertEqual(Hour(minute).moment_from(moment, zone), walked)

    def test_days_as_walked(self):
        for minute in (0, 1, 59, 60, 480, 1438, 1439):
            for zone in (-1439, 0, 77, 1439):
                for moment in MOMENTS:
                    walked = moment
                    while (walked + zone) % 1440 != minute:
                        walked += 1
                    self.assertEqual(Day(minute).moment_from(moment, zone), walked)

    def test_written_out(self):
        for way, moment, zone, told in (
            (Hour(5), 5, 0, 5), (Hour(5), 6, 0, 65), (Hour(5), 0, 10, 55), (Hour(0), -1, 0, 0),
            (Hour(59), -1, 0, -1), (Hour(0), 0, -1439, 59), (Hour(0), 0, 1439, 1),
            (Day(480), 480, 0, 480), (Day(480), 481, 0, 1920), (Day(0), 0, 1439, 1), (Day(0), 0, -1439, 1439),
            (Day(1439), 0, 0, 1439), (Day(1439), -1, 0, -1), (Day(480), 420, 60, 420),
        ):
            with self.subTest(way=vars(way), moment=moment, zone=zone):
                self.assertEqual(way.moment_from(moment, zone), told)

    def test_a_zone_that_is_none_is_refused_by_each(self):
        for way in (Now(), Never(), Hour(0), Day(0)):
            for bad in bad_zones():
                self.assert_refused(NoClock, way.moment_from, 0, bad)


if __name__ == "__main__":
    unittest.main()
