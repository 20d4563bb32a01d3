"""What parts a fit from another one (point 10), beside a search through all there is."""

import random
import unittest

import helper
from bellsaway.fits import Any, Both, Either, Kind, Least, Not, Place, parting
from bellsaway.happenings import Happening

ANY = ("any",)
NONE = ("not", ANY)


def only(kind, place, weight):
    return ("both", (("kind", (kind,)), ("place", (place,)), ("least", weight), ("not", ("least", weight + 1))))


class Case(helper.Case):
    def assert_parted(self, one, other):
        """Right in both orders; tells whether there was something, in each."""
        cells = helper.all_cells([one, other])
        return self.assert_right(one, other, cells), self.assert_right(other, one, cells)

    def assert_right(self, one, other, cells):
        found = parting(helper.made(one), helper.made(other))
        parts = lambda cell: helper.fits_plainly(one, *cell) and not helper.fits_plainly(other, *cell)
        if found is None:
            there = [cell for cell in cells if parts(cell)]
            self.assertEqual(there, [], (one, other))
            return False
        self.assertIs(type(found), Happening)
        self.assert_fields(Happening(**vars(found)), ("kind", "place", "weight"), vars(found).values())
        self.assertTrue(parts((found.kind, found.place, found.weight)), (one, other, vars(found)))
        return True


class Alike(Case):
    def test_each_is_like_itself(self):
        chance = random.Random(1)
        for turn in range(200):
            shape = helper.any_shape(chance, turn % 5)
            self.assertIsNone(parting(helper.made(shape), helper.made(shape)))
            fit = helper.made(shape)
            self.assertIsNone(parting(fit, fit))

    def test_alike_in_other_words(self):
        chance = random.Random(2)
        for turn in range(200):
            a = helper.any_shape(chance, turn % 4)
            b = helper.any_shape(chance, turn % 4)
            for one, other in (
                (a, ("not", ("not", a))),
                (("not", ("both", (a, b))), ("either", (("not", a), ("not", b)))),
                (("not", ("either", (a, b))), ("both", (("not", a), ("not", b)))),
                (("both", (a, b)), ("both", (b, a, b))),
                (a, ("either", (a, ("both", (a, b))))),
                (a, ("both", (a, ("either", (a, b))))),
                (a, ("either", (("both", (a, b)), ("both", (a, ("not", b)))))),
                (ANY, ("either", (a, ("not", a)))),
                (NONE, ("both", (a, ("not", a)))),
            ):
                self.assertEqual(self.assert_parted(one, other), (False, False))

    def test_written_out(self):
        for one, other in (
            (Any(), Least(0)),
            (Kind(["a", "b"]), Kind(["b", "a"])),
            (Kind(["a", "b"]), Either([Kind(["b"]), Kind(["a"])])),
            (Place(["a", "b"]), Either([Place(["b"]), Place(["a"])])),
            (Least(4), Both([Least(4), Least(3)])),
            (Least(3), Either([Least(4), Least(3)])),
            (Not(Any()), Both([Kind(["a"]), Kind(["b"])])),
            (Not(Any()), Both([Least(4), Not(Least(3))])),
            (Any(), Either([Not(Kind(["a"])), Not(Kind(["b"]))])),
            (Any(), Either([Least(5), Not(Least(5))])),
        ):
            self.assertIsNone(parting(one, other))
            self.assertIsNone(parting(other, one))


class Parted(Case):
    def test_within_but_not_the_same(self):
        for one, other in (
            (ANY, NONE), (ANY, ("kind", ("a",))), (ANY, ("not", ("kind", ("a",)))), (ANY, ("place", ("a",))),
            (ANY, ("not", ("place", ("a",)))), (ANY, ("least", 1)), (("least", 3), ("least", 4)),
            (("not", ("least", 4)), ("not", ("least", 3))), (("kind", ("a", "b")), ("kind", ("b",))),
            (("place", ("a", "b", "c")), ("place", ("c", "a"))), (("least", 0), ("least", 999999)),
            (("either", (("kind", ("a",)), ("place", ("a",)))), ("kind", ("a",))),
            (("kind", ("a",)), ("both", (("kind", ("a",)), ("place", ("a",))))),
            (("either", (("least", 3), ("kind", ("a",)))), ("least", 3)),
        ):
            self.assertEqual(self.assert_parted(one, other), (True, False))

    def test_in_both_orders(self):
        for one, other in (
            (("kind", ("a",)), ("kind", ("b",))), (("kind", ("a",)), ("place", ("a",))),
            (("kind", ("a",)), ("least", 1)), (("kind", ("a",)), ("not", ("kind", ("a",)))),
            (("least", 3), ("not", ("least", 3))),
        ):
            self.assertEqual(self.assert_parted(one, other), (True, True))

    def test_at_a_single_kind_place_and_weight(self):
        chance = random.Random(3)
        for turn in range(200):
            shape = helper.any_shape(chance, turn % 4)
            cell = (chance.choice(("a", "fire", "new")), chance.choice(("b", "new")), chance.choice((0, 1, 2, 4, 5, 9)))
            holed = ("both", (shape, ("not", only(*cell))))
            filled = ("either", (shape, only(*cell)))
            there = helper.fits_plainly(shape, *cell)
            for one, other, told in ((shape, holed, there), (filled, shape, not there), (filled, holed, True)):
                found = parting(helper.made(one), helper.made(other))
                self.assertIsNone(parting(helper.made(other), helper.made(one)))
                if told:
                    self.assertEqual((found.kind, found.place, found.weight), cell)
                else:
                    self.assertIsNone(found)

    def test_at_a_single_weight_below_the_named_ones(self):
        found = parting(Not(Least(1)), Least(1))
        self.assertEqual(found.weight, 0)
        found = parting(Least(999998), Least(999999))
        self.assertEqual(found.weight, 999998)

    def test_at_names_that_are_named_nowhere(self):
        letters = list(helper.LETTERS)
        pairs = ["b" + letter for letter in letters]
        for names in (["a"], ["b", "a", "c"], letters, letters + pairs[:4], letters + pairs, pairs):
            found = parting(Any(), Kind(names))
            self.assertNotIn(found.kind, names)
            self.assertTrue(helper.is_plain_name(found.kind))
            found = parting(Any(), Either([Kind(names), Place(names)]))
            self.assertNotIn(found.kind, names)
            self.assertNotIn(found.place, names)
            self.assertIsNone(parting(Kind(names), Both([Any(), Not(Not(Kind(names)))])))


class Searched(Case):
    def test_at_random(self):
        chance = random.Random(4)
        told = [self.assert_parted(helper.any_shape(chance, turn % 5), helper.any_shape(chance, (turn + 2) % 5))
                for turn in range(500)]
        self.assertGreater(len([pair for pair in told if pair == (True, False)]), 30)
        self.assertGreater(len([pair for pair in told if pair == (True, True)]), 30)
        self.assertGreater(len([pair for pair in told if pair == (False, False)]), 10)

    def test_twelve_deep(self):
        chance = random.Random(5)
        for turn in range(40):
            pair = []
            for shape in (("least", 2), ("kind", ("a",))):
                for step in range(11):
                    other = helper.any_shape(chance, 0)
                    shape = chance.choice((("not", shape), ("both", (other, shape)), ("either", (shape, other))))
                pair.append(shape)
            self.assert_parted(*pair)

    def test_sixty_parts_each(self):
        kinds = ["a" + letter for letter in helper.LETTERS[:18]]
        places = ["b" + letter for letter in helper.LETTERS[:18]]
        weights = [Least(3 * number) for number in range(17)]
        wide = Either([Kind(kinds), Place(places), Not(Both(weights))])
        moved = Either([Kind(kinds), Place(places[1:] + ["bz"]), Not(Both(weights))])
        found = parting(wide, moved)
        self.assertEqual((found.place, found.weight), ("ba", 48))
        self.assertNotIn(found.kind, kinds)
        found = parting(moved, wide)
        self.assertEqual((found.place, found.weight), ("bz", 48))
        self.assertNotIn(found.kind, kinds)

    def test_single_holes_in_wide_fits(self):
        kinds = ["a" + letter for letter in helper.LETTERS[:20]]
        places = ["b" + letter for letter in helper.LETTERS[:20]]
        wide = Both([Kind(kinds), Place(places), Least(7)])
        hole = Both([Kind(["at"]), Place(["bt"]), Least(70), Not(Least(71))])
        found = parting(wide, Both([wide, Not(hole)]))
        self.assertEqual((found.kind, found.place, found.weight), ("at", "bt", 70))
        self.assertIsNone(parting(Both([wide, Not(hole)]), wide))

    def test_nothing_is_changed(self):
        chance = random.Random(6)
        for turn in range(50):
            one = helper.any_shape(chance, 3)
            other = helper.any_shape(chance, 3)
            first = helper.made(one)
            second = helper.made(other)
            before = parting(first, second)
            parting(second, first)
            self.assertEqual(helper.shape_of(first), helper.shape_of(helper.made(one)))
            self.assertEqual(helper.shape_of(second), helper.shape_of(helper.made(other)))
            self.assertEqual(parting(first, second) is None, before is None)


if __name__ == "__main__":
    unittest.main()
