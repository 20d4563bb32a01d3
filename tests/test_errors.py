"""The refusals: where they stand, and their fields (point 2 and the interface)."""

import unittest

from bellsaway import errors

NAMES = (
    "NoClock", "NoHappening", "NoFit", "NoWish", "NoRoad", "NoTime",
    "NoRow", "Backward", "NoNumber", "Fallen", "NoBook", "NoText",
)
FIELDS = {"NoRoad": "road", "Backward": "now", "NoBook": "line", "NoText": "line"}


class Standing(unittest.TestCase):
    def test_bell_error_is_a_value_error(self):
        self.assertTrue(issubclass(errors.BellError, ValueError))

    def test_each_stands_straight_under_bell_error(self):
        for name in NAMES:
            with self.subTest(name=name):
                self.assertEqual(getattr(errors, name).__bases__, (errors.BellError,))

    def test_no_refusal_stands_under_another(self):
        for one in NAMES:
            for other in NAMES:
                if one != other:
                    with self.subTest(one=one, other=other):
                        self.assertFalse(issubclass(getattr(errors, one), getattr(errors, other)))

    def test_there_are_just_these(self):
        found = [
            name for name, thing in vars(errors).items()
            if isinstance(thing, type) and issubclass(thing, errors.BellError)
        ]
        self.assertEqual(sorted(found), sorted(NAMES + ("BellError",)))


class Making(unittest.TestCase):
    def test_each_is_raised_and_taken_as_a_bell_error(self):
        for name in NAMES:
            with self.subTest(name=name):
                with self.assertRaises(errors.BellError) as taken:
                    raise getattr(errors, name)()
                self.assertIs(type(taken.exception), getattr(errors, name))

    def test_those_without_fields_are_made_of_a_text(self):
        for name in NAMES + ("BellError",):
            if name not in FIELDS:
                with self.subTest(name=name):
                    self.assertIn("why", str(getattr(errors, name)("why")))

    def test_those_without_fields_bear_none(self):
        for name in NAMES + ("BellError",):
            if name not in FIELDS:
                with self.subTest(name=name):
                    self.assertEqual(vars(getattr(errors, name)("why")), {})


class Fields(unittest.TestCase):
    def test_just_the_named_field_is_there(self):
        for name, field in FIELDS.items():
            with self.subTest(name=name):
                self.assertEqual(list(vars(getattr(errors, name)())), [field])

    def test_road(self):
        self.assertIsNone(errors.NoRoad().road)
        self.assertEqual(errors.NoRoad("pager").road, "pager")

    def test_now(self):
        self.assertIsNone(errors.Backward().now)
        for now in (-7, 0, 1234567890123):
            self.assertEqual(errors.Backward(now).now, now)

    def test_line_of_no_book(self):
        self.assertIsNone(errors.NoBook().line)
        for line in (0, 1, 1999):
            self.assertEqual(errors.NoBook(line).line, line)

    def test_line_of_no_text(self):
        self.assertEqual(errors.NoText().line, 0)
        for line in (0, 1, 1999):
            self.assertEqual(errors.NoText(line).line, line)

    def test_each_object_has_its_own(self):
        first = errors.NoRoad("mail")
        second = errors.NoRoad("pager")
        self.assertEqual((first.road, second.road, errors.NoRoad().road), ("mail", "pager", None))


if __name__ == "__main__":
    unittest.main()
