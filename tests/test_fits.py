"""The seven fits (point 9), beside a plain reckoning, and what is refused."""

import copy
import random
import unittest

import helper
from bellsaway import fits
from bellsaway.errors import NoFit
from bellsaway.fits import Any, Both, Either, Fit, Kind, Least, Not, Place
from bellsaway.happenings import Happening

SEVEN = (Any, Kind, Place, Least, Not, Both, Either)


class Made(helper.Case):
    def test_class_and_fields(self):
        inner = Any()
        second = Not(inner)
        for fit, class_, names, told in (
            (Any(), Any, (), ()),
            (Kind(["fire", "a"]), Kind, ("names",), (["fire", "a"],)),
            (Kind(["zzzzzzzz"]), Kind, ("names",), (["zzzzzzzz"],)),
            (Place(["hall"]), Place, ("names",), (["hall"],)),
            (Place(["b", "a", "not"]), Place, ("names",), (["b", "a", "not"],)),
            (Least(0), Least, ("weight",), (0,)),
            (Least(999999), Least, ("weight",), (999999,)),
            (Not(inner), Not, ("fit",), (inner,)),
            (Not(second), Not, ("fit",), (second,)),
            (Both([inner, inner]), Both, ("fits",), ([inner, inner],)),
            (Both([second, inner, second]), Both, ("fits",), ([second, inner, second],)),
            (Either([inner, second]), Either, ("fits",), ([inner, second],)),
        ):
            with self.subTest(class_=class_.__name__, told=told):
                self.assertIs(type(fit), class_)
                self.assertIsInstance(fit, Fit)
                self.assertEqual([other for other in SEVEN if isinstance(fit, other)], [class_])
                self.assert_fields(fit, names, told)

    def test_sixty_names_and_sixty_fits(self):
        names = [first + second for first in "abcdef" for second in "abcdefghij"]
        self.assertEqual(Kind(names).names, names)
        self.assertEqual(Place(names).names, names)
        self.assertEqual(len(Both([Any() for name in names]).fits), 60)
        self.assertEqual(len(Either([Any() for name in names]).fits), 60)


class Lists(helper.Case):
    def test_names_changed_behind_it(self):
        for class_ in (Kind, Place):
            names = ["fire", "flood"]
            fit = class_(names)
            self.assertIsNot(fit.names, names)
            names.append("storm")
            names[0] = "calm"
            self.assertEqual(fit.names, ["fire", "flood"])
            told = [fit.fits_it(Happening(name, name, 0)) for name in ("fire", "flood", "storm", "calm")]
            self.assertEqual(told, [True, True, False, False])
            names.clear()
            self.assertEqual(fit.names, ["fire", "flood"])

    def test_fits_changed_behind_it(self):
        for class_, told in ((Both, False), (Either, True)):
            inner = [Any(), Least(5)]
            kept = list(inner)
            fit = class_(inner)
            self.assertIsNot(fit.fits, inner)
            inner[0] = Not(Any())
            inner[1] = Any()
            inner.append("no fit")
            self.assertEqual(fit.fits, kept)
            self.assertIs(fit.fits_it(Happening("a", "a", 4)), told)
            self.assertIs(fit.fits_it(Happening("a", "a", 5)), True)

    def test_two_made_of_one_list_have_lists_of_their_own(self):
        names = ["fire", "flood"]
        self.assertIsNot(Kind(names).names, Kind(names).names)
        inner = [Any(), Any()]
        self.assertIsNot(Both(inner).fits, Either(inner).fits)

    def test_what_is_handed_in_stays(self):
        names = ["fire", "flood"]
        inner = [Kind(names), Least(3)]
        kept = list(inner)
        Not(Both(inner)).fits_it(Happening("fire", "hall", 3))
        fits.parting(Either(inner), Both(inner))
        self.assertEqual(names, ["fire", "flood"])
        self.assertEqual(inner, kept)


class Refused(helper.Case):
    def test_names(self):
        for bad in ([],) + helper.bad_name_lists():
            kept = copy.deepcopy(bad) if isinstance(bad, list) else None
            self.assert_refused(NoFit, Kind, bad)
            self.assert_refused(NoFit, Place, bad)
            if isinstance(bad, list):
                self.assertEqual(bad, kept)

    def test_a_fit_is_no_list_of_names(self):
        for bad in (Any(), Kind(["a"]), [Any()], ["a", Any()]):
            self.assert_refused(NoFit, Kind, bad)
            self.assert_refused(NoFit, Place, bad)

    def test_weights(self):
        for bad in helper.bad_wholes(0) + (Any(), [0], (0,), "0", Least(0)):
            self.assert_refused(NoFit, Least, bad)

    def test_what_is_within_not(self):
        for bad in helper.THINGS + ([Any()], (Any(),), Any, Happening("a", "a", 0)):
            self.assert_refused(NoFit, Not, bad)

    def test_lists_that_are_none(self):
        for bad in helper.THINGS + ((Any(), Any()), Any(), Both([Any(), Any()]), {1: Any(), 2: Any()}, "any any"):
            self.assert_refused(NoFit, Both, bad)
            self.assert_refused(NoFit, Either, bad)

    def test_too_few(self):
        for bad in ([], [Any()], [Both([Any(), Any()])]):
            self.assert_refused(NoFit, Both, bad)
            self.assert_refused(NoFit, Either, bad)

    def test_one_that_is_no_fit_at_each_place(self):
        for bad in helper.THINGS + ([Any(), Any()], (Any(), Any()), Happening("a", "a", 0)):
            for wrong in ([bad, Any()], [Any(), bad], [Any(), bad, Any()], [Any(), Any(), bad], [bad, bad]):
                kept = list(wrong)
                self.assert_refused(NoFit, Both, wrong)
                self.assert_refused(NoFit, Either, wrong)
                self.assertEqual(wrong, kept)


class FitsIt(helper.Case):
    def assert_as_reckoned(self, shape, cells):
        fit = helper.made(shape)
        for kind, place, weight in cells:
            told = fit.fits_it(Happening(kind, place, weight))
            if told is not helper.fits_plainly(shape, kind, place, weight):
                self.fail((shape, kind, place, weight, told))

    def test_written_out(self):
        for fit, parts, told in (
            (Any(), ("a", "a", 0), True),
            (Kind(["fire", "flood"]), ("flood", "fire", 0), True),
            (Kind(["fire", "flood"]), ("fires", "fire", 0), False),
            (Kind(["fire", "flood"]), ("fir", "fire", 0), False),
            (Place(["hall"]), ("hall", "hall", 0), True),
            (Place(["hall"]), ("hall", "yard", 0), False),
            (Least(3), ("a", "a", 2), False),
            (Least(3), ("a", "a", 3), True),
            (Least(3), ("a", "a", 4), True),
            (Least(0), ("a", "a", 0), True),
            (Not(Any()), ("a", "a", 0), False),
            (Not(Least(3)), ("a", "a", 2), True),
            (Not(Not(Least(3))), ("a", "a", 2), False),
            (Both([Least(3), Any()]), ("a", "a", 2), False),
            (Both([Any(), Least(3)]), ("a", "a", 3), True),
            (Either([Least(3), Kind(["b"])]), ("a", "a", 2), False),
            (Either([Least(3), Kind(["b"])]), ("b", "a", 2), True),
            (Either([Least(3), Kind(["b"])]), ("a", "a", 3), True),
            (Both([Kind(["fire", "flood"]), Not(Least(3))]), ("flood", "a", 2), True),
            (Both([Kind(["fire", "flood"]), Not(Least(3))]), ("flood", "a", 3), False),
        ):
            with self.subTest(shape=helper.shape_of(fit), parts=parts):
                self.assertIs(fit.fits_it(Happening(*parts)), told)

    def test_the_middle_one_of_three_counts(self):
        yes = Any()
        no = Not(Any())
        one = Happening("a", "a", 0)
        self.assertIs(Both([yes, no, yes]).fits_it(one), False)
        self.assertIs(Either([no, yes, no]).fits_it(one), True)
        self.assertIs(Both([yes, yes, yes]).fits_it(one), True)
        self.assertIs(Either([no, no, no]).fits_it(one), False)

    def test_nested_at_where_they_turn_and_beside(self):
        chance = random.Random(9)
        for turn in range(400):
            shape = helper.any_shape(chance, turn % 5)
            self.assert_as_reckoned(shape, helper.all_cells([shape]))

    def test_twelve_deep(self):
        chance = random.Random(12)
        for turn in range(20):
            shape = helper.any_shape(chance, 1)
            for step in range(11):
                other = helper.any_shape(chance, 0)
                shape = chance.choice((("not", shape), ("both", (other, shape)), ("either", (shape, other))))
            self.assert_as_reckoned(shape, helper.all_cells([shape]))

    def test_asked_twice_it_tells_the_same(self):
        chance = random.Random(2)
        shape = helper.any_shape(chance, 4)
        for turn in range(2):
            fit = helper.made(shape)
            self.assert_as_reckoned(shape, helper.all_cells([shape]))
            fits.parting(fit, Any())
            self.assertEqual(helper.shape_of(fit), helper.shape_of(helper.made(shape)))


if __name__ == "__main__":
    unittest.main()
