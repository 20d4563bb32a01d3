"""Clocks (points 3 to 6), beside answers that are written out or found by walking."""

import unittest

from bellsaway.clocks import is_quiet, loud_from, next_day, next_hour, quiet_count, shown

ZONES = (-1439, -1438, -721, -60, -1, 0, 1, 59, 330, 720, 1438, 1439)
FAR = 10 ** 13 - 1
STARTS = (-FAR, -1441, -1440, -1439, -61, -1, 0, 1, 59, 60, 61, 719, 1379, 1439, 1440, 1441, FAR)
QUIETS = (
    (60, 120), (1320, 420), (0, 1), (1, 0), (0, 1439), (1439, 0), (1438, 1439), (1439, 1438),
    (0, 720), (720, 0), (1439, 1), (700, 701), (701, 700),
)


def walked_quiet(quiet, zone, moment):
    minute = (moment + zone) % 1440
    if quiet is None:
        return False
    if quiet[0] < quiet[1]:
        return minute in range(quiet[0], quiet[1])
    return minute not in range(quiet[1], quiet[0])


class Case(unittest.TestCase):
    def assert_whole(self, thing, number):
        self.assertIs(type(thing), int)
        self.assertEqual(thing, number)


class Shown(Case):
    def test_written_out(self):
        for moment, zone, told in (
            (0, 0, (0, 0)), (1439, 0, (0, 1439)), (1440, 0, (1, 0)), (-1, 0, (-1, 1439)),
            (-1440, 0, (-1, 0)), (-1441, 0, (-2, 1439)),
            (0, 1439, (0, 1439)), (1, 1439, (1, 0)), (-1439, 1439, (0, 0)), (-1440, 1439, (-1, 1439)),
            (0, -1439, (-1, 1)), (1438, -1439, (-1, 1439)), (1439, -1439, (0, 0)), (-1, -1439, (-1, 0)),
            (-2, -1439, (-2, 1439)),
            (100, 60, (0, 160)), (1380, 60, (1, 0)), (1379, 60, (0, 1439)), (100, -330, (-1, 1210)),
            (9999999999999, 0, (6944444444, 639)), (-9999999999999, 0, (-6944444445, 801)),
        ):
            with self.subTest(moment=moment, zone=zone):
                self.assertEqual(shown(moment, zone), told)

    def test_a_tuple_of_two_whole_numbers(self):
        for moment in STARTS:
            told = shown(moment, 1)
            self.assertIs(type(told), tuple)
            self.assertEqual([type(part) for part in told], [int, int])

    def test_each_minute_is_one_step_on_about_the_days_turn(self):
        for zone in ZONES:
            for day in (-2, -1, 0, 1, 2):
                turn = day * 1440 - zone
                with self.subTest(zone=zone, day=day):
                    self.assertEqual(shown(turn - 1, zone), (day - 1, 1439))
                    self.assertEqual(shown(turn, zone), (day, 0))
                    self.assertEqual(shown(turn + 1, zone), (day, 1))

    def test_day_and_minute_come_to_moment_and_zone(self):
        for zone in ZONES:
            for moment in STARTS:
                day, minute = shown(moment, zone)
                self.assertIn(minute, range(1440))
                self.assertEqual(day * 1440 + minute, moment + zone)

    def test_moments_beyond_thirteen_figures_are_answered(self):
        self.assertEqual(shown(1440 * 10 ** 20 + 7, 0), (10 ** 20, 7))


class Quiet(Case):
    def assert_edges(self, quiet, zone):
        start, end = quiet
        for day in (-1440, 0, 1440):
            for minute, told in ((start, True), (start - 1, False), (end, False), (end - 1, True)):
                with self.subTest(quiet=quiet, zone=zone, minute=minute):
                    self.assertIs(is_quiet(quiet, zone, day + minute - zone), told)

    def test_edges_with_start_below_end(self):
        for zone in ZONES:
            for quiet in ((60, 120), (1, 1439), (700, 702)):
                self.assert_edges(quiet, zone)

    def test_edges_with_start_above_end(self):
        for zone in ZONES:
            for quiet in ((1320, 420), (1438, 1), (720, 2)):
                self.assert_edges(quiet, zone)

    def test_edges_at_the_days_ends(self):
        for zone in ZONES:
            for quiet in ((0, 1), (1, 0), (0, 1439), (1439, 0), (1438, 1439), (1439, 1438), (0, 720), (720, 0)):
                self.assert_edges(quiet, zone)

    def test_written_out(self):
        for quiet, zone, moment, told in (
            ((60, 120), 0, 90, True), ((60, 120), 0, 30, False), ((60, 120), 0, 500, False),
            ((1320, 420), 0, 0, True), ((1320, 420), 0, 1439, True), ((1320, 420), 0, 720, False),
            ((1320, 420), 0, -1, True), ((60, 120), 60, 0, True), ((60, 120), 60, 60, False),
            ((60, 120), -60, 120, True), ((60, 120), -60, 60, False),
        ):
            with self.subTest(quiet=quiet, zone=zone, moment=moment):
                self.assertIs(is_quiet(quiet, zone, moment), told)

    def test_each_minute_of_two_days(self):
        for quiet in QUIETS:
            for zone in (-1439, 0, 77, 1439):
                for moment in range(-1440, 1440):
                    if is_quiet(quiet, zone, moment) is not walked_quiet(quiet, zone, moment):
                        self.fail((quiet, zone, moment))

    def test_none_is_never_quiet(self):
        for zone in ZONES:
            for moment in STARTS:
                self.assertIs(is_quiet(None, zone, moment), False)


class LoudFrom(Case):
    def test_written_out(self):
        for quiet, zone, moment, told in (
            ((60, 120), 0, 59, 59), ((60, 120), 0, 60, 120), ((60, 120), 0, 119, 120), ((60, 120), 0, 120, 120),
            ((1320, 420), 0, 1319, 1319), ((1320, 420), 0, 1320, 1860), ((1320, 420), 0, 1439, 1860),
            ((1320, 420), 0, 1440, 1860), ((1320, 420), 0, 0, 420), ((1320, 420), 0, 419, 420),
            ((1320, 420), 0, 420, 420), ((1320, 420), 0, -1, 420), ((1320, 420), 0, -120, 420),
            ((1320, 420), 0, -121, -121), ((1, 0), 0, 1, 1440), ((1, 0), 0, 0, 0), ((0, 1439), 0, 0, 1439),
            ((1439, 0), 0, 1439, 1440), ((1439, 0), 0, -1, 0), ((720, 0), 0, 1439, 1440), ((0, 1), 0, 0, 1),
            ((60, 120), 60, 0, 60), ((60, 120), -1439, 1500, 1559), ((60, 120), 1439, -1379, -1319),
        ):
            with self.subTest(quiet=quiet, zone=zone, moment=moment):
                self.assert_whole(loud_from(quiet, zone, moment), told)

    def test_the_least_that_is_loud(self):
        for quiet in QUIETS:
            for zone in (-1439, 0, 77, 1439):
                for moment in STARTS:
                    least = moment
                    while walked_quiet(quiet, zone, least):
                        least += 1
                    with self.subTest(quiet=quiet, zone=zone, moment=moment):
                        self.assert_whole(loud_from(quiet, zone, moment), least)

    def test_none_is_loud_at_once(self):
        for moment in STARTS:
            self.assert_whole(loud_from(None, 330, moment), moment)


class QuietCount(Case):
    def test_written_out(self):
        for quiet, zone, one, other, told in (
            ((60, 120), 0, 0, 1440, 60), ((60, 120), 0, 60, 61, 1), ((60, 120), 0, 59, 60, 0),
            ((60, 120), 0, 119, 121, 1), ((60, 120), 0, 120, 1500, 0), ((60, 120), 0, 120, 1501, 1),
            ((1320, 420), 0, 0, 1440, 540), ((1320, 420), 0, 1300, 1900, 540), ((1320, 420), 0, -10, 10, 20),
            ((1320, 420), 0, 419, 1321, 2), ((1, 0), 0, 0, 1440, 1439), ((0, 1), 0, -1440, 1440, 2),
            ((60, 120), 60, 0, 60, 60), ((60, 120), -60, 0, 121, 1),
        ):
            with self.subTest(quiet=quiet, zone=zone, one=one, other=other):
                self.assert_whole(quiet_count(quiet, zone, one, other), told)

    def test_nothing_where_the_other_is_not_greater(self):
        for quiet in QUIETS + (None,):
            for one, other in ((0, 0), (90, 90), (91, 90), (1440, 0), (0, -1440), (FAR, -FAR), (-5, -6)):
                with self.subTest(quiet=quiet, one=one, other=other):
                    self.assert_whole(quiet_count(quiet, 0, one, other), 0)

    def test_nothing_without_quiet_hours(self):
        for one, other in ((0, 1), (0, 1440), (-FAR, FAR)):
            self.assert_whole(quiet_count(None, 60, one, other), 0)

    def test_some_minutes_as_walked(self):
        for quiet in QUIETS:
            for zone in (-1439, 0, 77, 1439):
                for one in STARTS:
                    for length in (1, 2, 61, 1439, 1440, 1441):
                        walked = len([1 for minute in range(length) if walked_quiet(quiet, zone, one + minute)])
                        with self.subTest(quiet=quiet, zone=zone, one=one, length=length):
                            self.assert_whole(quiet_count(quiet, zone, one, one + length), walked)

    def test_whole_days_from_anywhere(self):
        for quiet in QUIETS:
            for one in STARTS:
                for days in (1, 2, 365, 10 ** 9, 10 ** 30):
                    with self.subTest(quiet=quiet, one=one, days=days):
                        told = quiet_count(quiet, -60, one, one + days * 1440)
                        self.assert_whole(told, days * ((quiet[1] - quiet[0]) % 1440))

    def test_parted_anywhere_it_comes_to_the_same(self):
        for quiet in QUIETS:
            for zone in (-1439, 0, 1439):
                whole = quiet_count(quiet, zone, -FAR, FAR)
                for parted in STARTS:
                    with self.subTest(quiet=quiet, zone=zone, parted=parted):
                        first = quiet_count(quiet, zone, -FAR, parted)
                        second = quiet_count(quiet, zone, parted, FAR)
                        self.assertEqual(first + second, whole)


class NextMinute(Case):
    def test_hours_written_out(self):
        for minute, zone, moment, told in (
            (5, 0, 5, 5), (5, 0, 6, 65), (5, 0, 4, 5), (0, 0, 0, 0), (0, 0, 1, 60), (0, 0, -1, 0),
            (59, 0, 59, 59), (59, 0, 60, 119), (59, 0, -1, -1), (59, 0, -2, -1), (5, 0, -55, -55),
            (5, 0, -54, 5), (5, 30, 35, 35), (5, 30, 36, 95), (5, -30, 34, 35), (5, 330, 0, 35),
            (0, 1439, 0, 1), (0, -1439, 0, 59), (0, 60, 0, 0),
        ):
            with self.subTest(minute=minute, zone=zone, moment=moment):
                self.assert_whole(next_hour(minute, zone, moment), told)

    def test_days_written_out(self):
        for minute, zone, moment, told in (
            (480, 0, 480, 480), (480, 0, 481, 1920), (480, 0, 479, 480), (0, 0, 0, 0), (0, 0, 1, 1440),
            (0, 0, -1, 0), (1439, 0, -1, -1), (1439, 0, 0, 1439), (1439, 0, 1440, 2879),
            (480, 0, -960, -960), (480, 0, -959, 480), (480, 60, 420, 420), (480, 60, 421, 1860),
            (480, -60, 480, 540), (0, 1439, 0, 1), (0, -1439, 0, 1439), (1, -1439, 0, 0),
        ):
            with self.subTest(minute=minute, zone=zone, moment=moment):
                self.assert_whole(next_day(minute, zone, moment), told)

    def assert_next(self, asked, minute, length):
        # The moment itself, the one behind it and the one ahead of it, at which the clock shows the minute.
        for zone in ZONES:
            for turn in (-10 ** 9, -2, -1, 0, 1, 2, 10 ** 9):
                at = turn * length + minute - zone
                with self.subTest(minute=minute, zone=zone, at=at):
                    self.assert_whole(asked(minute, zone, at), at)
                    self.assert_whole(asked(minute, zone, at + 1), at + length)
                    self.assert_whole(asked(minute, zone, at - 1), at)
                    self.assert_whole(asked(minute, zone, at - length + 1), at)

    def test_hours_at_it_behind_it_and_ahead_of_it(self):
        for minute in (0, 1, 5, 30, 58, 59):
            self.assert_next(next_hour, minute, 60)

    def test_days_at_it_behind_it_and_ahead_of_it(self):
        for minute in (0, 1, 59, 60, 480, 1438, 1439):
            self.assert_next(next_day, minute, 1440)

    def test_what_comes_is_shown(self):
        for zone in ZONES:
            for moment in STARTS:
                self.assertEqual(shown(next_hour(17, zone, moment), zone)[1] % 60, 17)
                self.assertEqual(shown(next_day(1017, zone, moment), zone)[1], 1017)


if __name__ == "__main__":
    unittest.main()
