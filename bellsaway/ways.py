"""Ways: when a hand is told of what it wished for."""

from bellsaway.clocks import check_minute_of_day, check_minute_of_hour, check_zone, next_day, next_hour


class Way:
    pass


class Now(Way):
    def moment_from(self, moment, zone):
        check_zone(zone)
        return moment

    def is_gathered(self):
        return False


class Hour(Way):
    def __init__(self, minute):
        check_minute_of_hour(minute)
        self.minute = minute

    def moment_from(self, moment, zone):
        return next_hour(self.minute, zone, moment)

    def is_gathered(self):
        return True


class Day(Way):
    def __init__(self, minute):
        check_minute_of_day(minute)
        self.minute = minute

    def moment_from(self, moment, zone):
        return next_day(self.minute, zone, moment)

    def is_gathered(self):
        return True


class Never(Way):
    def moment_from(self, moment, zone):
        check_zone(zone)
        return None

    def is_gathered(self):
        return False
