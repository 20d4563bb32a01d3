"""The promise of what hands hear (point 35), and what holds over the whole program (point 2)."""

import pathlib
import random
import time
import unittest

import helper
from bellsaway.house import House
from bellsaway.judging import judge
from bellsaway.roads import Road
from bellsaway.texts import read_book, show_book


class World:
    """Brings what it says: a road that knows brings a stamp once; each hearing is (moment, hand, word, number)."""

    def __init__(self, scene, chance):
        self.scene = scene
        self.chance = chance
        self.known = set()
        self.heard = []
        self.tried = {}

    def carry(self, road, hand, word, stamps, moment):
        slow, knows = {name: (slow, knows) for name, slow, knows in self.scene.roads}[road]
        for stamp in stamps:
            self.tried.setdefault((hand, stamp[0]), moment)
        told = self.scene.answer(road, hand, word, stamps, moment)
        keys = [(road, hand, word, stamp) for stamp in stamps]
        # A road that knows and has let a stamp by never says that it didn't take it.
        if knows and told is False and self.known & set(keys):
            told = True
        for key in keys:
            arrived = told if told is not None else self.chance.random() < 0.5
            if arrived and not (knows and key in self.known):
                self.heard.append((moment + slow, moment, hand, word, key[3][0]))
                self.known.add(key)
        return told


class Hears(helper.Case):
    def each_world(self, seeds):
        for seed in seeds:
            chance = random.Random(seed)
            scene = helper.Scene(chance, chance.choice((10, 25)))
            world = World(scene, chance)
            yield seed, scene, world, House(scene.made_roads(), scene.pause, world.carry)

    def test_how_often(self):
        surely_twice = perhaps_once = 0
        for seed, scene, world, house in self.each_world(range(2000, 2120)):
            for row in scene.rows:
                house.put(row)
                for hand in helper.HANDS:
                    for number in range(scene.happened + 1):
                        heard = len([one for one in world.heard if one[2] == hand and one[4] == number])
                        told = house.account(hand, number)
                        if told is None:
                            self.assertEqual(heard, 0)
                            continue
                        self.assertGreaterEqual(heard, told[4], (seed, row, hand, number))
                        self.assertLessEqual(heard, told[4] + told[5], (seed, row, hand, number))
                        surely_twice += told[4] > 1
                        perhaps_once += told[5] > 0
        self.assertGreater(min(surely_twice, perhaps_once), 100)

    def test_nothing_in_quiet_hours_but_what_may_wake(self):
        for seed, scene, world, house in self.each_world(range(2120, 2180)):
            wishes = {}
            things = []
            for row in scene.rows:
                count = len(world.heard)
                start = len(house.book())
                lines = house.put(row)
                behind = lines.index(row)
                self.assertEqual(house.book()[start:], lines)
                for place, line in enumerate(lines):
                    if place == behind and row[0] == "wish":
                        wishes[row[2]] = scene.texts[row[3]]
                    if place == behind and row[0] == "happen":
                        things.append(row[2:])
                    if line[0] == "try":
                        slow = {road[0]: road[1] for road in scene.roads}[line[4]]
                        for number, rounds in line[5]:
                            # A bell has at most as many raisings as rounds.
                            weight = things[number][2] + rounds
                            self.assertTrue(helper.plain_usable(wishes[line[2]], slow, weight, line[1]), (seed, line))
                self.assertGreaterEqual(len(world.heard), count)

    def test_only_what_was_wished_for(self):
        for seed, scene, world, house in self.each_world(range(2180, 2240)):
            for row in scene.rows:
                house.put(row)
            wishes = {}
            wished = set()
            tos = {}
            things = []
            for row in scene.rows:
                if row[0] == "wish":
                    wishes[row[2]] = scene.texts[row[3]]
                if row[0] == "happen":
                    things.append(row[2:])
                # When it happened or, led on, at any moment behind that.
                for number, thing in enumerate(things):
                    for hand in wishes:
                        line = helper.plain_line_for(wishes[hand], thing)
                        if line is not None and number == len(things) - 1 and row[0] == "happen":
                            wished.add((hand, number))
                        if line is not None:
                            tos.setdefault((hand, number), True)
            led = {line[4][2] for parts in scene.texts.values() for line in parts[3] if line[4]}
            for heard in world.heard:
                key = (heard[2], heard[4])
                self.assertTrue(key in wished or (key in tos and heard[2] in led), (seed, heard))

    def test_tried_first_at_the_due_moment_and_not_ahead_of_the_hour(self):
        tried = 0
        for seed, scene, world, house in self.each_world(range(2240, 2300)):
            wishes = {}
            for row in scene.rows:
                dues = {(hand, bell): due for hand in helper.HANDS for bell, due in house.waiting(hand)}
                dues = {key: due for key, due in dues.items() if key not in world.tried}
                house.put(row)
                for key, due in dues.items():
                    if due <= row[1]:
                        self.assertEqual(world.tried[key], due, (seed, row))
                        tried += 1
                    elif key in world.tried:
                        self.assertEqual(world.tried[key], row[1], (seed, row))
                if row[0] == "wish":
                    wishes[row[2]] = scene.texts[row[3]]
                if row[0] == "happen":
                    number = len([line for line in house.book() if line[0] == "happen"]) - 1
                    for hand in wishes:
                        line = helper.plain_line_for(wishes[hand], row[2:])
                        if line is not None and line[1][0] != "now":
                            hour = helper.plain_moment(line[1], wishes[hand][0], row[1])
                            due = world.tried.get((hand, number), dict(house.waiting(hand)).get(number))
                            self.assertGreaterEqual(due, hour, (seed, row))
        self.assertGreater(tried, 100)


class Sizes(helper.Case):
    def test_twelve_hands_eight_roads_two_hundred_rows(self):
        names = ["a", "b", "c", "d", "e", "f", "g", "h"]
        roads = [Road(name, number * 7, number % 2 == 0) for number, name in enumerate(names)]
        hands = ["h" + name for name in names] + ["ann", "bob", "cy", "dee"]
        start = time.monotonic()
        house = House(roads, 10, lambda road, hand, word, stamps, moment: (True, False, None)[(moment + len(hand)) % 3])
        rows = [("wish", 0, hand, "zone {} ; quiet 1320 420 7 ; kind fire : now by 8 {} sure raise 30 3 ann ; "
                                  "any : hour 5 by 8 {}".format(60 * number, " ".join(names), " ".join(names[::-1])))
                for number, hand in enumerate(hands)]
        for number in range(len(rows), 200):
            rows.append(("happen", 10 * number, "fire" if number % 5 == 0 else "flood", "hall", number % 9))
        longest = 0
        for row in rows:
            longest = max(longest, len(house.put(row)))
            house.next_due()
            house.waiting("ann")
            house.plan(row[1])
        self.assertIsNone(judge(roads, 10, house.book()))
        self.assertEqual(read_book(show_book(house.book())), house.book())
        self.assertGreater(longest, 50)
        self.assertLess(time.monotonic() - start, 60)

    def test_two_thousand_lines_by_one_row(self):
        roads = [Road("mail"), Road("pager", 5)]
        house = House(roads, 10, lambda *parts: True)
        house.put(("wish", 0, "ann", "zone 0 ; any : now by 2 mail pager raise 1 999 bob"))
        house.put(("wish", 0, "bob", "zone 0 ; any : never"))
        house.put(("happen", 0, "fire", "hall", 0))
        lines = house.put(("go", 10 ** 13))
        self.assertEqual(len(lines), 999 * 2 + 1)
        self.assertEqual(house.account("ann", 0), ("over", "bell", 999, 999, 1000, 0))
        self.assertIsNone(judge(roads, 10, house.book()))

    def test_many_refusals(self):
        house = House([Road("mail")], 999999, lambda *parts: False)
        house.put(("wish", -10 ** 13 + 1, "ann", "zone 0 ; any : now by 1 mail"))
        house.put(("happen", -10 ** 13 + 1, "fire", "hall", 999999))
        lines = house.put(("go", 10 ** 13 - 1))
        moments = [line[1] for line in lines if line[0] == "try"]
        self.assertEqual([later - one for one, later in zip(moments, moments[1:])],
                         [999999 * 2 ** turn for turn in range(1, len(moments))])
        due = house.next_due()
        self.assertEqual(house.put(("go", due))[0][:2], ("try", due))


class NothingOfTheMachine(helper.Case):
    def test_only_the_programs_own_modules_are_drawn_from(self):
        package = pathlib.Path(__file__).resolve().parent.parent / "bellsaway"
        for path in package.glob("*.py"):
            for row in path.read_text().split("\n"):
                if row.startswith(("import", "from")):
                    self.assertTrue(row.startswith("from bellsaway."), (path, row))


if __name__ == "__main__":
    unittest.main()
