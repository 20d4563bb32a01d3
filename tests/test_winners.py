"""The line that wins, the line for a happening, what wins a line, the idle lines (point 15)."""

import random
import unittest

import helper
from bellsaway.fits import Any, Both, Either, Kind, Least, Not, Place
from bellsaway.happenings import Happening
from bellsaway.ways import Day, Hour, Never, Now
from bellsaway.wishes import Line, Wishes


def lined(fits, nevers=()):
    lines = []
    for number, fit in enumerate(fits):
        lines.append(Line(fit, Never(), []) if number in nevers else Line(fit, Now(), ["mail"]))
    return Wishes(lines=lines)


def plain_winner(shapes, cell):
    for number, shape in enumerate(shapes):
        if helper.fits_plainly(shape, *cell):
            return number
    return None


class Winning(helper.Case):
    def test_at_random_as_reckoned(self):
        chance = random.Random(15)
        for turn in range(60):
            shapes = [helper.any_shape(chance, turn % 4) for number in range(chance.randint(0, 6))]
            nevers = [number for number in range(len(shapes)) if chance.random() < 0.4]
            wishes = lined([helper.made(shape) for shape in shapes], nevers)
            for cell in helper.all_cells(shapes):
                number = plain_winner(shapes, cell)
                line = None if number is None else wishes.lines[number]
                self.assertIs(wishes.winning(Happening(*cell)), line)
                self.assertIs(wishes.line_for(Happening(*cell)), None if number in nevers else line)

    def test_the_first_wins(self):
        wishes = lined([Kind(["fire"]), Any(), Kind(["flood"])])
        self.assertIs(wishes.winning(Happening("fire", "a", 0)), wishes.lines[0])
        self.assertIs(wishes.winning(Happening("flood", "a", 0)), wishes.lines[1])

    def test_never_wins_and_hides_what_is_behind_it(self):
        wishes = lined([Kind(["fire"]), Any()], [0])
        self.assertIs(wishes.winning(Happening("fire", "a", 0)), wishes.lines[0])
        self.assertIsNone(wishes.line_for(Happening("fire", "a", 0)))
        self.assertIs(wishes.line_for(Happening("flood", "a", 0)), wishes.lines[1])

    def test_the_line_for_it_by_each_way(self):
        for way in (Now(), Hour(0), Day(0)):
            line = Line(Any(), way, ["mail"])
            self.assertIs(Wishes(lines=[line]).line_for(Happening("a", "a", 0)), line)

    def test_without_lines(self):
        self.assertIsNone(Wishes().winning(Happening("a", "a", 0)))
        self.assertIsNone(Wishes().line_for(Happening("a", "a", 0)))
        self.assertIsNone(Wishes().winner(0))
        self.assertEqual(Wishes().idle(), [])


class Winners(helper.Case):
    def assert_winners(self, shapes):
        wishes = lined([helper.made(shape) for shape in shapes], (1, 2))
        won = {plain_winner(shapes, cell) for cell in helper.all_cells(shapes)}
        idle = [number for number in range(len(shapes)) if number not in won]
        self.assertEqual(wishes.idle(), idle, shapes)
        for number in range(len(shapes)):
            found = wishes.winner(number)
            if number in idle:
                self.assertIsNone(found)
            else:
                self.assertIs(type(found), Happening)
                self.assertEqual(plain_winner(shapes, (found.kind, found.place, found.weight)), number)
                self.assertIs(wishes.winning(found), wishes.lines[number])
        return idle

    def test_at_random_as_reckoned(self):
        chance = random.Random(16)
        idle = 0
        for turn in range(300):
            idle += len(self.assert_winners(
                [helper.any_shape(chance, turn % 4) for number in range(chance.randint(1, 7))]
            ))
        self.assertGreater(idle, 100)

    def test_hidden_lines(self):
        for fits, idle in (
            ([Any(), Any()], [1]),
            ([Any(), Kind(["a"]), Least(3)], [1, 2]),
            ([Not(Any()), Any()], [0]),
            ([Not(Not(Kind(["a"]))), Kind(["a"])], [1]),
            ([Not(Kind(["a"])), Kind(["b"]), Kind(["a"]), Any()], [1, 3]),
            ([Kind(["a"]), Both([Kind(["a"]), Place(["b"])]), Place(["b"])], [1]),
            ([Either([Kind(["a"]), Place(["b"])]), Kind(["a"]), Place(["b"]), Kind(["b"])], [1, 2]),
            ([Least(3), Not(Least(3)), Kind(["a"])], [2]),
            ([Least(3), Least(4), Least(2)], [1]),
            ([Kind(["a"]), Kind(["b"]), Kind(["a", "b"]), Kind(["a", "b", "c"])], [2]),
            ([Both([Kind(["a"]), Kind(["b"])]), Any()], [0]),
            ([Both([Least(4), Not(Least(4))]), Least(4)], [0]),
            ([Kind(["a"]), Not(Kind(["a"])), Any()], [2]),
            ([Both([Kind(["a"]), Least(2)]), Both([Kind(["a"]), Not(Least(2))]), Kind(["a"])], [2]),
        ):
            wishes = lined(fits)
            with self.subTest(fits=[helper.shape_of(fit) for fit in fits]):
                self.assertEqual(wishes.idle(), idle)
                none = [number for number in range(len(fits)) if wishes.winner(number) is None]
                self.assertEqual(none, idle)

    def test_a_line_that_wins_at_a_single_happening(self):
        only = Both([Kind(["a"]), Place(["b"]), Least(4), Not(Least(5))])
        wishes = lined([Not(only), Any()])
        found = wishes.winner(1)
        self.assertEqual((found.kind, found.place, found.weight), ("a", "b", 4))
        self.assertEqual(wishes.idle(), [])

    def test_lines_for_never_are_won_and_hide_too(self):
        wishes = lined([Kind(["a"]), Kind(["a"]), Any()], [0])
        self.assertEqual(wishes.winner(0).kind, "a")
        self.assertEqual(wishes.idle(), [1])

    def test_numbers_that_no_line_has(self):
        wishes = lined([Kind(["a"]), Any()])
        for number in (-1, -2, -3, 2, 3, 999999, -999999, 10 ** 30, -(10 ** 30)):
            self.assertIsNone(wishes.winner(number))

    def test_idle_is_the_askers_own(self):
        wishes = lined([Any(), Any(), Any()])
        told = wishes.idle()
        self.assertIs(type(told), list)
        told.clear()
        self.assertEqual(wishes.idle(), [1, 2])
        wishes.idle().append(7)
        self.assertEqual(wishes.idle(), [1, 2])
        self.assertIsNot(wishes.idle(), wishes.idle())

    def test_asking_changes_nothing(self):
        wishes = lined([Kind(["a"]), Not(Kind(["a"])), Any()], [1])
        before = helper.taken_apart(wishes)
        wishes.winning(Happening("a", "a", 0))
        wishes.line_for(Happening("b", "a", 0))
        wishes.winner(2)
        wishes.idle()
        self.assertEqual(helper.taken_apart(wishes), before)

    def test_twenty_lines_kinds_places_and_weights(self):
        kinds = ["a" + letter for letter in helper.LETTERS[:20]]
        places = ["b" + letter for letter in helper.LETTERS[:20]]
        fits = []
        for number in range(18):
            fits.append(Both([Kind(kinds[number:]), Place(places[number:]), Least(40 - 2 * number)]))
        fits.append(Either([Not(Kind(kinds)), Not(Place(places)), Not(Least(39))]))
        fits.append(Kind(kinds))
        wishes = lined(fits)
        self.assertEqual(wishes.idle(), [])
        for number in range(20):
            self.assertIs(wishes.winning(wishes.winner(number)), wishes.lines[number])
        self.assertEqual(wishes.winner(19).weight, 39)
        fits[19] = Both([Kind(kinds[:1]), Place(places[:1]), Least(40)])
        wishes = lined(fits)
        self.assertEqual(wishes.idle(), [19])
        self.assertIsNone(wishes.winner(19))


if __name__ == "__main__":
    unittest.main()
