"""What a hand's clock shows, which moments are quiet by it, and when a minute of it comes next."""

from bellsaway.errors import NoClock
from bellsaway.wholes import is_whole_between

MINUTES_OF_HOUR = 60
MINUTES_OF_DAY = 1440


def is_minute_of_day(thing):
    return is_whole_between(thing, 0, MINUTES_OF_DAY - 1)


def is_quiet_hours(thing):
    if thing is None:
        return True
    if not isinstance(thing, tuple) or len(thing) != 2:
        return False
    return is_minute_of_day(thing[0]) and is_minute_of_day(thing[1]) and thing[0] != thing[1]


def check_zone(zone):
    if not is_whole_between(zone, 1 - MINUTES_OF_DAY, MINUTES_OF_DAY - 1):
        raise NoClock("a zone is a whole number from -1439 to 1439")


def check_quiet(quiet):
    if not is_quiet_hours(quiet):
        raise NoClock("quiet hours are a tuple of two unlike minutes from 0 to 1439, or None")


def check_minute_of_hour(minute):
    if not is_whole_between(minute, 0, MINUTES_OF_HOUR - 1):
        raise NoClock("a minute of the hour is a whole number from 0 to 59")


def check_minute_of_day(minute):
    if not is_minute_of_day(minute):
        raise NoClock("a minute of the day is a whole number from 0 to 1439")


def shown(moment, zone):
    check_zone(zone)
    local = moment + zone
    return (local // MINUTES_OF_DAY, local % MINUTES_OF_DAY)


def is_quiet(quiet, zone, moment):
    check_quiet(quiet)
    minute = shown(moment, zone)[1]
    if quiet is None:
        return False
    start = quiet[0]
    end = quiet[1]
    if start < end:
        return start <= minute and minute < end
    return start <= minute or minute < end


def loud_from(quiet, zone, moment):
    if is_quiet(quiet, zone, moment):
        # Quiet hours end at a loud minute, as start and end are unlike.
        return next_day(quiet[1], zone, moment)
    return moment


def quiet_below(quiet, zone, moment):
    # Counted from one fixed moment, below nought ahead of it: only two counts' difference is of use.
    # Days are reckoned from the start of the quiet hours, so that each has its quiet minutes
    # ahead of its loud ones, and quiet hours round midnight are no case of their own.
    length = (quiet[1] - quiet[0]) % MINUTES_OF_DAY
    since = moment + zone - quiet[0]
    return since // MINUTES_OF_DAY * length + min(since % MINUTES_OF_DAY, length)


def quiet_count(quiet, zone, one, other):
    check_quiet(quiet)
    check_zone(zone)
    if quiet is None or other <= one:
        return 0
    return quiet_below(quiet, zone, other) - quiet_below(quiet, zone, one)


def next_hour(minute, zone, moment):
    check_minute_of_hour(minute)
    check_zone(zone)
    # A day is a whole number of hours, so the rest by 60 needs no rest by 1440 first.
    return moment + (minute - moment - zone) % MINUTES_OF_HOUR


def next_day(minute, zone, moment):
    check_minute_of_day(minute)
    check_zone(zone)
    return moment + (minute - moment - zone) % MINUTES_OF_DAY
