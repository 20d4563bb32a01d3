"""Roads, when they can be used, and their first use (points 19 to 21)."""

import random
import unittest

import helper
from bellsaway.errors import NoRoad
from bellsaway.roads import Road, can_be_used, first_use
from bellsaway.wishes import Wishes

FIELDS = ("name", "slow", "knows")
QUIETS = (None, (60, 120), (1320, 420), (0, 1), (1, 0), (0, 1439), (1439, 0), (700, 701), (701, 700))
SLOWS = (0, 1, 59, 60, 539, 1439, 1440, 1441, 2000, 4321, 999999)


def usable(road, wishes, weight, moment):
    minute = (moment + road.slow + wishes.zone) % 1440
    if wishes.quiet is None:
        return True
    start, end = wishes.quiet
    quiet = minute in range(start, end) if start < end else minute not in range(end, start)
    return not quiet or (wishes.wake is not None and not weight < wishes.wake)


def walked_use(roads, wishes, weight, moment):
    while not [road for road in roads if usable(road, wishes, weight, moment)]:
        moment += 1
    return moment, [road for road in roads if usable(road, wishes, weight, moment)]


class Made(helper.Case):
    def test_fields(self):
        self.assert_fields(Road("mail"), FIELDS, ("mail", 0, False))
        self.assert_fields(Road("mail", 5), FIELDS, ("mail", 5, False))
        self.assert_fields(Road("mail", 999999, True), FIELDS, ("mail", 999999, True))
        self.assert_fields(Road("abcdefgh", 0, False), FIELDS, ("abcdefgh", 0, False))
        self.assertIs(type(Road("a")), Road)

    def test_by_name(self):
        self.assert_fields(Road(name="mail"), FIELDS, ("mail", 0, False))
        self.assert_fields(Road("mail", knows=True), FIELDS, ("mail", 0, True))
        self.assert_fields(Road(knows=True, slow=7, name="by"), FIELDS, ("by", 7, True))

    def test_refused_at_each_place(self):
        for bad in helper.bad_names():
            self.assertIsNone(self.assert_refused(NoRoad, Road, bad).road)
            self.assert_refused(NoRoad, Road, bad, 5, True)
        for bad in helper.bad_wholes(0):
            self.assertIsNone(self.assert_refused(NoRoad, Road, "mail", bad).road)
            self.assert_refused(NoRoad, Road, "mail", bad, True)
        for bad in helper.THINGS:
            if bad is not True and bad is not False:
                self.assertIsNone(self.assert_refused(NoRoad, Road, "mail", 0, bad).road)

    def test_refused_at_several_places(self):
        self.assertIsNone(self.assert_refused(NoRoad, Road, "Mail", -1, 1).road)
        self.assertIsNone(self.assert_refused(NoRoad, Road, None, None, None).road)


class CanBeUsed(helper.Case):
    def test_written_out(self):
        quick = Road("pager")
        slow = Road("mail", 60)
        plain = Wishes(0, (60, 120))
        waking = Wishes(0, (60, 120), 7)
        for road, wishes, weight, moment, told in (
            (quick, plain, 9, 59, True), (quick, plain, 9, 60, False), (quick, plain, 9, 119, False),
            (quick, plain, 9, 120, True), (slow, plain, 9, -1, True), (slow, plain, 9, 0, False),
            (slow, plain, 9, 59, False), (slow, plain, 9, 60, True), (slow, plain, 9, 119, True),
            (quick, waking, 6, 60, False), (quick, waking, 7, 60, True), (quick, waking, 8, 60, True),
            (slow, waking, 6, 59, False), (slow, waking, 7, 59, True), (quick, waking, 0, 59, True),
            (quick, Wishes(0, (60, 120), 0), 0, 60, True), (quick, Wishes(), 0, 60, True),
            (quick, Wishes(-60, (60, 120)), 0, 120, False), (quick, Wishes(60, (60, 120)), 0, 0, False),
        ):
            with self.subTest(road=vars(road), wishes=vars(wishes), weight=weight, moment=moment):
                self.assertIs(can_be_used(road, wishes, weight, moment), told)

    def test_as_reckoned(self):
        for quiet in QUIETS:
            for wake in (None,) if quiet is None else (None, 0, 5):
                for zone in (-1439, 0, 77, 1439):
                    wishes = Wishes(zone, quiet, wake)
                    for slow in SLOWS:
                        road = Road("a", slow)
                        for moment in (-10 ** 13 + 1, -1441, -61, -1, 0, 1, 59, 60, 119, 120, 419, 1320, 10 ** 13 - 1):
                            for weight in (0, 4, 5, 6):
                                told = can_be_used(road, wishes, weight, moment)
                                if told is not usable(road, wishes, weight, moment):
                                    self.fail((vars(wishes), slow, moment, weight, told))

    def test_whether_it_knows_makes_no_difference(self):
        wishes = Wishes(0, (60, 120))
        for moment in (59, 60, 119, 120):
            told = [can_be_used(Road("a", 0, knows), wishes, 0, moment) for knows in (True, False)]
            self.assertEqual(told[0], told[1])


class FirstUse(helper.Case):
    def assert_first_use(self, roads, wishes, weight, moment):
        told = first_use(roads, wishes, weight, moment)
        walked = walked_use(roads, wishes, weight, moment)
        self.assertIs(type(told), tuple)
        self.assertEqual(len(told), 2)
        self.assertIs(type(told[0]), int)
        self.assertIs(type(told[1]), list)
        self.assertEqual(told, walked, ([vars(road) for road in roads], vars(wishes), weight, moment))
        self.assertIn(told[0] - moment, range(1440))

    def test_written_out(self):
        quick = Road("pager")
        slow = Road("mail", 60)
        late = Road("bird", 1440)
        wishes = Wishes(0, (60, 120), 7)
        for roads, weight, moment, told in (
            ([quick], 0, 59, (59, [quick])), ([quick], 0, 60, (120, [quick])), ([quick], 7, 60, (60, [quick])),
            ([slow], 0, 0, (60, [slow])), ([slow, quick], 0, 0, (0, [quick])), ([quick, slow], 0, 60, (60, [slow])),
            ([slow, quick], 0, 120, (120, [slow, quick])), ([quick, slow], 0, 120, (120, [quick, slow])),
            ([slow, quick], 7, 60, (60, [slow, quick])), ([late, quick], 0, 60, (120, [late, quick])),
            ([late], 0, -1380, (-1320, [late])), ([quick, late, slow], 0, 30, (30, [quick, late])),
        ):
            with self.subTest(roads=[road.name for road in roads], weight=weight, moment=moment):
                self.assertEqual(first_use(roads, wishes, weight, moment), told)

    def test_one_road_as_walked(self):
        for quiet in QUIETS:
            for zone in (-1439, 0, 1439):
                for slow in SLOWS:
                    for moment in (-10 ** 13 + 1, -1441, -1, 0, 59, 60, 1380, 10 ** 13 - 1):
                        self.assert_first_use([Road("a", slow)], Wishes(zone, quiet), 0, moment)

    def test_several_roads_as_walked(self):
        chance = random.Random(21)
        for turn in range(500):
            count = chance.randint(1, 8)
            roads = [Road(name, chance.choice(SLOWS), chance.random() < 0.5)
                     for name in chance.sample(helper.LETTERS, count)]
            quiet = chance.choice(QUIETS)
            wake = None if quiet is None else chance.choice((None, 0, 3))
            wishes = Wishes(chance.randint(-1439, 1439), quiet, wake)
            self.assert_first_use(roads, wishes, chance.randint(0, 5), chance.randint(-5000, 5000))

    def test_the_list_is_the_askers_own(self):
        roads = [Road("a"), Road("b", 5)]
        told = first_use(roads, Wishes(), 0, 0)
        self.assertIsNot(told[1], roads)
        told[1].clear()
        self.assertEqual([road.name for road in roads], ["a", "b"])
        self.assertEqual(first_use(roads, Wishes(), 0, 0), (0, roads))

    def test_nothing_is_changed(self):
        roads = [Road("a", 70), Road("b", 5)]
        wishes = Wishes(0, (60, 120), 3)
        before = helper.taken_apart((list(roads), wishes))
        first_use(roads, wishes, 0, 60)
        can_be_used(roads[0], wishes, 0, 60)
        self.assertEqual(helper.taken_apart((roads, wishes)), before)


if __name__ == "__main__":
    unittest.main()
