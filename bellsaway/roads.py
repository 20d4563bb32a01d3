"""Roads, and when they can be used by a hand's wishes."""

from bellsaway.clocks import is_quiet, loud_from
from bellsaway.errors import NoRoad
from bellsaway.happenings import is_name
from bellsaway.wholes import is_whole_from


class Road:
    def __init__(self, name, slow=0, knows=False):
        if not is_name(name) or not is_whole_from(slow, 0) or not isinstance(knows, bool):
            raise NoRoad()
        self.name = name
        self.slow = slow
        self.knows = knows


def check_roads(roads):
    if not isinstance(roads, list) or len(roads) == 0:
        raise NoRoad()
    if not all([isinstance(road, Road) for road in roads]):
        raise NoRoad()
    if len(set([road.name for road in roads])) < len(roads):
        raise NoRoad()


def may_wake(wishes, weight):
    return wishes.wake is not None and weight >= wishes.wake


def can_be_used(road, wishes, weight, moment):
    return may_wake(wishes, weight) or not is_quiet(wishes.quiet, wishes.zone, moment + road.slow)


def first_use_of(road, wishes, weight, moment):
    if may_wake(wishes, weight):
        return moment
    return loud_from(wishes.quiet, wishes.zone, moment + road.slow) - road.slow


def first_use(roads, wishes, weight, moment):
    least = min([first_use_of(road, wishes, weight, moment) for road in roads])
    return (least, [road for road in roads if can_be_used(road, wishes, weight, least)])
