"""A house: made, put rows, refusals that change nothing, falls (points 2, 22 to 24, 36, 37)."""

import random
import unittest

import helper
from bellsaway.errors import Backward, Fallen, NoBook, NoHappening, NoNumber, NoRoad, NoRow, NoText, NoTime
from bellsaway.house import House
from bellsaway.roads import Road

ROADS = [("pager", 0, False), ("mail", 30, True), ("bird", 60, False)]
WISH = ("wish", 0, "ann", "zone 0 ; kind fire : now by 2 pager mail raise 10 1 bob ; any : hour 5 by 1 mail")
RIGHT = [
    WISH, ("happen", 1, "fire", "hall", 0), ("try", 1, "ann", "bell", "pager", ((0, 0),)), ("end", 1, "not"),
    ("try", 1, "ann", "bell", "mail", ((0, 0),)), ("end", 1, "took"), ("happen", 2, "flood", "hall", 0),
]


def made_roads():
    return [Road(*road) for road in ROADS]


def took(*parts):
    return True


def all_told(house):
    accounts = [house.account(hand, number) for hand in helper.HANDS for number in range(5)]
    waiting = [house.waiting(hand) for hand in helper.HANDS]
    letters = [house.letters(hand) for hand in helper.HANDS]
    moment = 10 ** 5 if house.clock() is None else house.clock() + 500
    return (house.book(), house.clock(), accounts, waiting, letters, house.next_due(), house.plan(moment))


class Made(helper.Case):
    def test_new(self):
        for house in (House(made_roads(), 10, took), House(made_roads(), 10, took, None), House(made_roads(), 1, took, [])):
            self.assertEqual(house.book(), [])
            self.assertIsNone(house.clock())
            self.assertIsNone(house.next_due())
            self.assertIsNone(house.account("ann", 0))
            self.assertEqual(house.waiting("ann"), [])
            self.assertEqual(house.letters("ann"), [])
            for moment in (-10 ** 13, 0, 10 ** 13):
                self.assertEqual(house.plan(moment), [])
            self.assertEqual(house.go_on(), [])
            self.assertIsNone(house.clock())

    def test_roads_are_refused_first(self):
        good = Road("mail")
        for bad in (
            [], (), (good,), [good, good], [good, Road("mail", 5)], ["mail"], [good, None], [Road], {"mail": good},
        ) + helper.THINGS:
            for pause in (1, 0, True, None):
                for lines in (None, [], 7):
                    self.assertIsNone(self.assert_refused(NoRoad, House, bad, pause, took, lines).road)

    def test_then_the_pause(self):
        for bad in helper.bad_wholes(1):
            for lines in (None, [], 7):
                self.assert_refused(NoTime, House, made_roads(), bad, took, lines)

    def test_then_the_book(self):
        for bad in helper.THINGS + (tuple(RIGHT), {}, "go 5"):
            if bad is not None and bad != []:
                told = self.assert_refused(NoBook, House, made_roads(), 10, took, bad)
                self.assertEqual((told.line, type(told.line)), (0, int))
        for number in range(len(RIGHT)):
            lines = RIGHT[:number] + [("end", 1, "no")] + RIGHT[number:]
            self.assertEqual(self.assert_refused(NoBook, House, made_roads(), 10, took, lines).line, number)
        self.assertEqual(self.assert_refused(NoBook, House, made_roads()[1:], 10, took, RIGHT).line, 0)

    def test_by_another_pause_the_book_is_another(self):
        lines = RIGHT[:3] + [("end", 1, "not"), RIGHT[4], ("end", 1, "not"), ("try", 11, "ann", "bell", "pager", ((0, 0),))]
        House(made_roads(), 10, took, lines)
        self.assertEqual(self.assert_refused(NoBook, House, made_roads(), 9, took, lines).line, 6)

    def test_nothing_is_carried_by_the_making(self):
        House(made_roads(), 10, None, RIGHT)
        for count in range(len(RIGHT) + 1):
            House(made_roads(), 10, None, RIGHT[:count])

    def test_what_is_handed_in_is_the_askers(self):
        roads = made_roads()
        lines = list(RIGHT)
        house = House(roads, 10, took, lines)
        self.assertEqual(lines, RIGHT)
        self.assertEqual([vars(road) for road in roads], [vars(road) for road in made_roads()])
        roads.clear()
        lines.clear()
        self.assertEqual(house.book(), RIGHT)
        self.assertEqual(house.put(("go", 5)), [("try", 5, "ann", "bell", "mail", ((1, 0),)), ("end", 5, "took"), ("go", 5)])
        self.assertEqual((roads, lines), ([], []))


class Carried(helper.Case):
    def setUp(self):
        self.calls = []
        self.answers = []
        self.house = House(made_roads(), 10, self.carry)

    def carry(self, *parts):
        self.calls.append(parts)
        answer = self.answers.pop(0) if self.answers else True
        if isinstance(answer, BaseException):
            raise answer
        return answer


class Put(Carried):
    def test_what_is_told_and_written(self):
        book = []
        for answers, row, lines in (
            ([], WISH, [WISH]),
            ([False], RIGHT[1], RIGHT[1:6]),
            ([], RIGHT[6], RIGHT[6:]),
            ([None], ("go", 4), [("go", 4)]),
            ([None], ("go", 30), [("try", 5, "ann", "bell", "mail", ((1, 0),)), ("end", 5, "perhaps"),
                                  ("try", 15, "ann", "bell", "mail", ((1, 0),)), ("end", 15, "took"), ("go", 30)]),
            ([], ("take", 31, "bob", 1), [("take", 31, "bob", 1)]),
            ([None], ("later", 32, "ann", 0, 40), [("later", 32, "ann", 0, 40)]),
            ([None], ("back", 40, 0), [
                ("try", 40, "ann", "bell", "pager", ((0, 1),)), ("end", 40, "perhaps"), ("back", 40, 0),
                ("try", 40, "ann", "off", "pager", ((0, 2),)), ("end", 40, "took"),
            ]),
        ):
            self.answers = list(answers)
            told = self.house.put(row)
            self.assertEqual(told, lines, row)
            book += lines
            self.assertEqual(self.house.book(), book)
            self.assertEqual(self.house.clock(), row[1])

    def test_the_carrier_is_called_with_what_the_try_says(self):
        self.house.put(WISH)
        self.answers = [False]
        self.house.put(RIGHT[1])
        self.assertEqual(self.calls, [("pager", "ann", "bell", ((0, 0),), 1), ("mail", "ann", "bell", ((0, 0),), 1)])
        self.assertEqual([type(part) for part in self.calls[0]], [str, str, str, tuple, int])

    def test_the_try_is_written_ahead_of_the_carrying(self):
        books = []

        def carry(*parts):
            books.append(house.book())
            return False

        house = House(made_roads(), 10, carry)
        house.put(WISH)
        house.put(RIGHT[1])
        self.assertEqual(books, [RIGHT[:3], RIGHT[:5]])

    def test_rows_at_the_same_moment(self):
        self.house.put(("go", 5))
        self.house.put(("go", 5))
        self.assertEqual(self.house.book(), [("go", 5)] * 2)

    def test_far_moments(self):
        for moment in (-10 ** 13 + 1, -1, 10 ** 13 - 1):
            house = House(made_roads(), 10, took)
            house.put(("wish", moment, "ann", "zone 0 ; any : day 480 by 1 mail"))
            told = house.put(("happen", moment, "fire", "hall", 999999))
            self.assertEqual(told[0], ("happen", moment, "fire", "hall", 999999))
            due = house.next_due()
            self.assertEqual((due % 1440, due - moment in range(1440)), (480, True))

    def test_lists_are_the_askers_own(self):
        told = self.house.put(WISH)
        told.clear()
        self.house.put(RIGHT[1])
        self.house.put(RIGHT[6])
        before = all_told(self.house)
        for tell in (self.house.book, lambda: self.house.waiting("ann"), lambda: self.house.letters("ann"),
                     lambda: self.house.plan(500), self.house.go_on):
            tell().append(1)
            tell().clear()
        self.assertEqual(all_told(self.house), before)


class Refused(helper.Case):
    def house(self):
        house = House(made_roads(), 10, lambda *parts: (True, None, False)[parts[4] % 3])
        for row in (WISH, RIGHT[1], RIGHT[6]):
            house.put(row)
        return house

    def test_each_refusal_changes_nothing(self):
        house = self.house()
        for refusal, field, row in (
            (NoRow, (), ("go",)), (NoRow, (), ["go", 5]), (NoRow, (), ("take", 5, "Ann", 0)), (NoRow, (), ("go", True)),
            (NoRow, (), None), (NoRow, (), ("try", 5, "ann", "bell", "mail", ((1, 0),))), (NoRow, (), ("end", 5, "took")),
            (Backward, (2,), ("go", 1)), (Backward, (2,), ("wish", 1, "ann", "zone")), (NoText, (0,), ("wish", 500, "ann", "zone")),
            (NoText, (0,), ("wish", 500, "ann", 7)), (NoRoad, ("dog",), ("wish", 500, "ann", "zone 0 ; any : now by 2 mail dog")),
            (NoHappening, (), ("happen", 500, "fire", "hall", -1)), (NoHappening, (), ("happen", 500, "Fire", "hall", 1)),
            (NoNumber, (), ("take", 500, "ann", 2)), (NoNumber, (), ("later", 500, "ann", 2, 400)),
            (NoNumber, (), ("back", 500, 2)), (NoTime, (), ("later", 500, "ann", 1, 500)),
        ):
            before = all_told(house)
            told = self.assert_refused(refusal, house.put, row)
            self.assertEqual(tuple(vars(told).values()), field)
            self.assertEqual(all_told(house), before)
        self.assertEqual(house.put(("go", 5))[-1], ("go", 5))

    def test_things_of_all_kinds(self):
        house = self.house()
        before = all_told(house)
        for thing in helper.THINGS:
            self.assert_refused(NoRow, house.put, thing)
            self.assert_refused(NoRow, house.put, (thing, 500))
            self.assert_refused(NoText, house.put, ("wish", 500, "ann", thing))
        self.assertEqual(all_told(house), before)

    def test_refused_as_reckoned_behind_each_row(self):
        for seed in range(20):
            chance = random.Random(seed)
            scene = helper.Scene(chance, 12)
            house = House(scene.made_roads(), scene.pause, scene.answer)
            plain = scene.plain()
            for row in scene.rows:
                for turn in range(10):
                    place = chance.randrange(len(row))
                    bad = row[:place] + (chance.choice(helper.THINGS + (row[1] - 1, row[1] + 1, 99)),) + row[place + 1:]
                    told = plain.refusal(bad)
                    if told is not None:
                        before = all_told(house)
                        taken = self.assert_refused(getattr(helper.errors, told[0]), house.put, bad)
                        self.assertEqual(list(vars(taken).values()) or [None], [told[1]])
                        self.assertEqual(all_told(house), before)
                self.assertEqual(house.put(row), plain.put(row, scene.answer))


class Falls(Carried):
    def fall(self, error):
        self.house.put(WISH)
        self.house.put(("happen", 0, "flood", "hall", 0))
        self.house.put(("go", 4))
        self.answers = [error]
        with self.assertRaises(type(error)) as taken:
            self.house.put(("happen", 30, "fire", "hall", 0))
        self.assertIs(taken.exception, error)

    def test_what_is_raised_goes_through(self):
        for error in (ValueError("x"), KeyError(1), KeyboardInterrupt(), SystemExit(3), StopIteration(), NoRow("x"),
                      Fallen("x"), NoText(7), RecursionError(), GeneratorExit(), BaseException("x")):
            self.setUp()
            self.fall(error)
            self.assertEqual(self.house.book()[-1], ("try", 5, "ann", "bell", "mail", ((0, 0),)))
            self.assertEqual(len(self.house.book()), 4)

    def test_all_further_rows_are_refused(self):
        self.fall(OSError())
        book = self.house.book()
        calls = len(self.calls)
        for row in (("go", 500), ("go", 0), ("go",), None, 7, ("wish", 500, "ann", "zone"), ("back", 500, 99), WISH) + helper.THINGS:
            self.assert_refused(Fallen, self.house.put, row)
            self.assert_refused(Fallen, self.house.go_on)
        self.assertEqual(self.house.book(), book)
        self.assertEqual(len(self.calls), calls)

    def test_fallen_behind_the_row(self):
        self.house.put(WISH)
        self.answers = [False, OSError()]
        self.assertRaises(OSError, self.house.put, RIGHT[1])
        self.assertEqual(self.house.book(), RIGHT[:5])
        self.assert_refused(Fallen, self.house.go_on)

    def test_fallen_while_it_goes_on(self):
        for count in (2, 3, 4, 5):
            house = House(made_roads(), 10, self.carry, RIGHT[:count])
            self.answers = [OSError()]
            if RIGHT[count - 1][0] == "try":
                self.assertEqual(house.go_on(), [("end", 1, "perhaps")])
                self.answers = []
                continue
            self.assertRaises(OSError, house.go_on)
            self.assertEqual(house.book()[-1][0], "try")
            self.assert_refused(Fallen, house.go_on)
            self.assert_refused(Fallen, house.put, ("go", 50))

    def test_a_house_that_only_refused_has_not_fallen(self):
        self.house.put(WISH)
        self.assert_refused(NoRow, self.house.put, 7)
        self.assertEqual(self.house.put(("go", 5)), [("go", 5)])


if __name__ == "__main__":
    unittest.main()
