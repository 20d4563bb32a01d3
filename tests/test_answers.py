"""Accounts, what waits, the next due moment, letters, the plan (points 42 to 45)."""

import random
import unittest

import helper
from bellsaway.errors import Backward
from bellsaway.house import House
from bellsaway.roads import Road

ROADS = [("pager", 0, False), ("mail", 30, True), ("bird", 60, False)]


def made(carrier, lines=None):
    return House([Road(*road) for road in ROADS], 10, carrier, lines)


def took(*parts):
    return True


def never_called(*parts):
    raise AssertionError("the carrier was called")


class WrittenOut(helper.Case):
    def setUp(self):
        self.weather = {"pager": True, "mail": True, "bird": True}
        self.house = made(lambda road, *parts: self.weather[road])

    def test_accounts(self):
        house = self.house
        house.put(("wish", 0, "ann", "zone 0 ; any : now by 2 pager mail sure raise 10 1"))
        self.assertIsNone(house.account("ann", 0))
        house.put(("happen", 0, "fire", "hall", 0))
        self.assertIsNone(house.account("ann", 1))
        self.assertIsNone(house.account("bob", 0))
        self.assertEqual(house.account("ann", 0), ("told", "bell", 0, 0, 1, 0))
        self.weather["pager"] = self.weather["mail"] = None
        house.put(("go", 10))
        self.assertEqual(house.account("ann", 0), ("waits", "bell", 1, 1, 1, 2))
        self.weather["mail"] = True
        house.put(("go", 20))
        self.assertEqual(house.account("ann", 0), ("told", "bell", 1, 1, 2, 1))
        self.weather["mail"] = False
        house.put(("back", 21, 0))
        self.assertEqual(house.account("ann", 0), ("waits", "off", 2, 1, 2, 2))
        self.weather["pager"] = True
        house.put(("go", 31))
        self.assertEqual(house.account("ann", 0), ("over", "off", 2, 1, 3, 2))
        house.put(("happen", 40, "fire", "hall", 0))
        house.put(("take", 41, "ann", 1))
        self.assertEqual(house.account("ann", 1), ("taken", "bell", 0, 0, 1, 0))
        self.assertEqual([type(part) for part in house.account("ann", 1)], [str, str, int, int, int, int])
        self.assertIs(type(house.account("ann", 1)), tuple)

    def test_waiting_and_the_next_due_moment(self):
        house = self.house
        house.put(("wish", 0, "ann", "zone 0 ; quiet 0 100 5 ; kind fire : now by 1 pager raise 7 1 ; any : hour 30 by 1 mail"))
        house.put(("happen", 1, "flood", "hall", 0))
        house.put(("happen", 1, "fire", "hall", 0))
        house.put(("happen", 1, "fire", "hall", 5))
        house.put(("happen", 31, "flood", "hall", 9))
        self.assertEqual(house.account("ann", 2), ("told", "bell", 1, 1, 2, 0))
        self.assertEqual(house.waiting("ann"), [(0, 70), (1, 100), (3, 90)])
        self.assertEqual(house.next_due(), 70)
        self.assertEqual(house.waiting("bob"), [])
        self.assertEqual([type(pair) for pair in house.waiting("ann")], [tuple] * 3)

    def test_the_next_due_moment_is_of_raisings_too(self):
        house = self.house
        house.put(("wish", 0, "ann", "zone 0 ; any : now by 1 bird raise 7 1"))
        house.put(("happen", 1, "flood", "hall", 0))
        self.assertEqual((house.waiting("ann"), house.next_due()), ([], 68))
        house.put(("go", 68))
        self.assertEqual((house.waiting("ann"), house.next_due()), ([], 135))
        house.put(("go", 135))
        self.assertEqual((house.waiting("ann"), house.next_due()), ([], None))

    def test_letters(self):
        house = self.house
        house.put(("wish", 0, "ann", "zone 0 ; kind fire : now by 3 pager bird mail sure ; any : hour 5 by 1 mail"))
        self.weather.update(pager=False, bird=None)
        house.put(("happen", 1, "fire", "hall", 0))
        house.put(("happen", 2, "flood", "hall", 0))
        house.put(("happen", 3, "flood", "hall", 0))
        self.weather["mail"] = None
        house.put(("go", 5))
        self.weather["mail"] = False
        house.put(("go", 15))
        self.assertEqual(house.letters("ann"), [
            (61, "bell", "bird", ((0, 0),), False), (31, "bell", "mail", ((0, 0),), True),
            (35, "bell", "mail", ((1, 0), (2, 0)), False),
        ])
        self.assertEqual(house.letters("bob"), [])
        self.weather["pager"] = True
        house.put(("back", 16, 0))
        self.assertEqual(house.letters("ann")[3:], [(16, "off", "pager", ((0, 1),), True)])

    def test_a_try_without_an_end_is_no_letter(self):
        lines = [("wish", 0, "ann", "zone 0 ; any : now by 1 mail"), ("happen", 1, "fire", "hall", 0),
                 ("try", 1, "ann", "bell", "mail", ((0, 0),))]
        self.assertEqual(made(never_called, lines).letters("ann"), [])
        self.assertEqual(made(never_called, lines + [("end", 1, "took")]).letters("ann"),
                         [(31, "bell", "mail", ((0, 0),), True)])

    def test_plan(self):
        house = self.house
        house.put(("wish", 0, "ann", "zone 0 ; any : hour 5 by 2 bird pager raise 10 1 bob"))
        house.put(("wish", 0, "bob", "zone 0 ; kind flood : now by 1 mail ; any : day 480 by 1 mail"))
        house.put(("happen", 1, "fire", "hall", 0))
        house.put(("happen", 2, "fire", "yard", 0))
        house.put(("take", 3, "bob", 0))
        whole = [
            (5, "ann", "bell", "bird", ((0, 0), (1, 0))), (75, "ann", "bell", "bird", ((0, 1),)),
            (75, "ann", "bell", "bird", ((1, 1),)), (480, "bob", "bell", "mail", ((1, 0),)),
        ]
        for moment, count in ((3, 0), (4, 0), (5, 1), (74, 1), (75, 3), (479, 3), (480, 4), (10 ** 13, 4)):
            self.assertEqual(house.plan(moment), whole[:count])

    def test_a_plan_backward(self):
        house = self.house
        for moment in (-10 ** 13, 0, 10 ** 13):
            self.assertEqual(house.plan(moment), [])
        house.put(("go", 5))
        for moment in (4, 0, -10 ** 13):
            self.assertEqual(self.assert_refused(Backward, house.plan, moment).now, 5)
        self.assertEqual(house.plan(5), [])

    def test_the_plan_of_a_letter_that_is_not_ended(self):
        lines = [
            ("wish", 0, "ann", "zone 0 ; kind fire : now by 3 pager bird mail sure ; any : now by 2 mail pager"),
            ("happen", 1, "fire", "hall", 0), ("try", 1, "ann", "bell", "pager", ((0, 0),)),
        ]
        further = [(1, "ann", "bell", "bird", ((0, 0),))]
        for end in ([], [("end", 1, "perhaps")], [("end", 1, "not")]):
            house = made(never_called, lines + end)
            self.assertEqual(house.plan(1), further)
            self.assertEqual(house.plan(100), further)
            self.assertEqual(house.book(), lines + end)
        self.assertEqual(made(never_called, lines + [("end", 1, "took")]).plan(100), [])
        lines = [lines[0], ("happen", 1, "flood", "hall", 0), ("try", 1, "ann", "bell", "mail", ((0, 0),))]
        house = made(took, lines)
        self.assertEqual(house.plan(10), [])
        self.assertEqual(house.plan(11), [(11, "ann", "bell", "mail", ((0, 0),))])
        self.assertEqual(house.go_on(), [("end", 1, "perhaps")])


class AsReckoned(helper.Case):
    def test_behind_each_row_from_the_book_alone(self):
        for seed in range(1000, 1040):
            chance = random.Random(seed)
            scene = helper.Scene(chance, chance.choice((8, 20)))
            house = House(scene.made_roads(), scene.pause, scene.answer)
            for row in scene.rows:
                house.put(row)
                plain = scene.plain()
                self.assertTrue(all([plain.follow(line) for line in house.book()]))
                self.assertEqual(house.clock(), row[1])
                self.assertEqual(house.next_due(), plain.next_due())
                for hand in helper.HANDS:
                    self.assertEqual(house.waiting(hand), plain.waiting(hand), (seed, row))
                    self.assertEqual(house.letters(hand), plain.letters(hand), (seed, row))
                    for number in range(scene.happened + 1):
                        self.assertEqual(house.account(hand, number), plain.account(hand, number), (seed, row))

    def test_plans_carry_nothing_and_change_nothing(self):
        for seed in range(1040, 1080):
            chance = random.Random(seed)
            scene = helper.Scene(chance, chance.choice((8, 20)))
            calls = []

            def carry(*parts):
                calls.append(parts)
                return scene.answer(*parts)

            house = House(scene.made_roads(), scene.pause, carry)
            plain = scene.plain()
            for row in scene.rows:
                for moment in (row[1], row[1] + 1, row[1] + chance.randint(2, 5000)):
                    count = len(calls)
                    self.assertEqual(house.plan(moment), plain.plan(moment), (seed, row))
                    self.assertEqual(house.plan(moment), plain.plan(moment), (seed, row))
                    self.assertEqual(len(calls), count)
                self.assertEqual(house.book(), plain.book)
                self.assertEqual(house.put(row), plain.put(row, scene.answer), (seed, row))

    def test_plans_of_each_cut(self):
        for seed in range(1080, 1095):
            chance = random.Random(seed)
            scene = helper.Scene(chance, 15)
            house = House(scene.made_roads(), scene.pause, scene.answer)
            for row in scene.rows:
                house.put(row)
            book = house.book()
            plain = scene.plain()
            for count, line in enumerate(book, 1):
                self.assertTrue(plain.follow(line))
                cut = House(scene.made_roads(), scene.pause, never_called, book[:count])
                for by in (0, 300, 3000):
                    self.assertEqual(cut.plan(line[1] + by), plain.plan(line[1] + by), (seed, count))
                self.assertEqual(cut.book(), book[:count])

    def test_what_is_planned_is_what_is_tried_where_each_is_taken(self):
        for seed in range(1100, 1130):
            chance = random.Random(seed)
            scene = helper.Scene(chance, 15)
            house = House(scene.made_roads(), scene.pause, scene.answer)
            for row in scene.rows:
                house.put(row)
            planned = house.plan(row[1] + 5000)
            other = House(scene.made_roads(), scene.pause, took, house.book())
            lines = other.put(("go", row[1] + 5000))
            self.assertEqual([line[1:] for line in lines if line[0] == "try"], planned)


if __name__ == "__main__":
    unittest.main()
