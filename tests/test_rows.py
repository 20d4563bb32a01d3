"""Rows: which tuples are rows, and in which order they are refused (point 23)."""

import itertools
import unittest

import helper
from bellsaway.errors import Backward, NoHappening, NoNumber, NoRoad, NoRow, NoText, NoTime
from bellsaway.happenings import Happening
from bellsaway.rows import checked, is_row
from bellsaway.wishes import Wishes

TEXT = "zone 60 ; kind fire : now by 2 pager mail sure raise 10 3 boss ; any : never"
GOOD = (
    ("wish", 5, "ann", TEXT), ("happen", 5, "fire", "hall", 3), ("take", 5, "ann", 0), ("later", 5, "ann", 1, 6),
    ("back", 5, 1), ("go", 5),
)
KNOWN = {"pager": True, "mail": True}
MOMENTS = (-10 ** 13, -1440, -1, 0, 1, 10 ** 13, 10 ** 20)
MORE_THINGS = (GOOD, GOOD[0][:3], list(GOOD[5]), ("go",), (5,), "go 5", "took", 1 << 70, Happening("a", "b", 1), Wishes())


def rows_with(row, place, things):
    return [row[:place] + (thing,) + row[place + 1:] for thing in things]


def is_moment(thing):
    return type(thing) is int


def is_number(thing):
    return type(thing) is int and thing >= 0


FORMS = {
    "wish": (is_moment, helper.is_plain_name), "happen": (is_moment,),
    "take": (is_moment, helper.is_plain_name, is_number),
    "later": (is_moment, helper.is_plain_name, is_number, is_moment), "back": (is_moment, is_number),
    "go": (is_moment,),
}


class IsRow(helper.Case):
    def test_good_rows(self):
        for row in GOOD:
            self.assertIs(is_row(row), True, row)
            for moment in MOMENTS:
                self.assertIs(is_row((row[0], moment) + row[2:]), True)

    def test_things_of_all_kinds_at_each_place(self):
        things = helper.THINGS + helper.NO_NAMES + MORE_THINGS
        for row in GOOD:
            for place, good in enumerate(FORMS[row[0]], 1):
                for changed in rows_with(row, place, things):
                    self.assertIs(is_row(changed), good(changed[place]), changed)

    def test_texts_and_happenings_are_looked_at_later(self):
        for thing in helper.THINGS + MORE_THINGS:
            self.assertIs(is_row(("wish", 5, "ann", thing)), True)
            self.assertIs(is_row(("happen", 5, thing, thing, thing)), True)

    def test_other_words(self):
        for row in GOOD:
            for changed in rows_with(row, 0, helper.THINGS + MORE_THINGS + ("Go", "go ", "try", "end", "")):
                self.assertIs(is_row(changed), False, changed)
        for word in ("try", "end", "raise", "bell", "off", "", "GO"):
            for length in range(7):
                self.assertIs(is_row((word, 5, "ann", 0, 6, 7, 8)[:length]), False)

    def test_too_short_and_too_long(self):
        for row in GOOD:
            for length in range(len(row)):
                self.assertIs(is_row(row[:length]), False, row[:length])
            for thing in helper.THINGS:
                self.assertIs(is_row(row + (thing,)), False)
            self.assertIs(is_row(row + row), False)
            self.assertIs(is_row((row,)), False)

    def test_a_word_with_another_ones_parts(self):
        for row, other in itertools.permutations(GOOD, 2):
            changed = (row[0],) + other[1:]
            told = len(row) == len(other) and all(good(part) for good, part in zip(FORMS[row[0]], changed[1:]))
            self.assertIs(is_row(changed), told, changed)

    def test_what_is_no_tuple(self):
        for thing in helper.THINGS + MORE_THINGS:
            self.assertIs(is_row(thing), False)
        for row in GOOD:
            self.assertIs(is_row(list(row)), False)
            self.assertIs(is_row(dict(enumerate(row))), False)
            self.assertIs(is_row(" ".join(map(str, row))), False)


class Checked(helper.Case):
    def refused(self, refusal, row, now=5, known=KNOWN, count=2):
        return self.assert_refused(refusal, checked, row, now, known, count)

    def test_what_rows_bear(self):
        borne = [checked(row, 5, KNOWN, 2) for row in GOOD]
        self.assert_fields(borne[1], ("kind", "place", "weight"), ("fire", "hall", 3))
        self.assertIs(type(borne[0]), Wishes)
        self.assertEqual(borne[0].zone, 60)
        self.assertEqual([line.roads for line in borne[0].lines], [["pager", "mail"], []])
        self.assertEqual(borne[2:], [None] * 4)

    def test_no_row(self):
        for thing in helper.THINGS + MORE_THINGS:
            self.refused(NoRow, thing)
            self.refused(NoRow, thing, None)
        for row in GOOD:
            self.refused(NoRow, row[:-1] if row[0] != "go" else row[:1])
            self.refused(NoRow, row + (1,))
            for bad in rows_with(row, 1, helper.bad_wholes(-10 ** 14)[2:]):
                self.refused(NoRow, bad)
        for bad in helper.bad_names():
            for row in GOOD[0], GOOD[2], GOOD[3]:
                self.refused(NoRow, row[:2] + (bad,) + row[3:])
        for bad in helper.bad_wholes(0):
            self.refused(NoRow, ("take", 5, "ann", bad))
            self.refused(NoRow, ("later", 5, "ann", bad, 6))
            self.refused(NoRow, ("back", 5, bad))
        for bad in helper.bad_wholes(-10 ** 14)[2:]:
            self.refused(NoRow, ("later", 5, "ann", 1, bad))

    def test_backward(self):
        for row in GOOD:
            for now in (6, 7, 10 ** 13):
                taken = self.refused(Backward, row, now)
                self.assertEqual((taken.now, type(taken.now)), (now, int))
            for now in (5, 4, -10 ** 13, None):
                checked(row, now, KNOWN, 2)
        self.assertEqual(self.refused(Backward, ("go", -1), 0).now, 0)
        self.assertEqual(self.refused(Backward, ("go", -9), -8).now, -8)

    def test_no_text(self):
        texts = ("", "zone", "zone 0 ", " zone 0", "zone 1440", "zone 0 ;", "any : never", "zone 0 ; any", "zone 0\n",
                 "zone 0 ; any : now by 0", "zone 0 ; any : now by 2 mail mail", "zone 0 ; quiet 5 5", TEXT + " ;")
        for bad in texts + helper.THINGS + MORE_THINGS:
            self.assertEqual(self.refused(NoText, ("wish", 5, "ann", bad)).line, 0)

    def test_no_road(self):
        for text, road in (
            ("zone 0 ; any : now by 1 bird", "bird"), ("zone 0 ; any : now by 3 mail bird pager", "bird"),
            ("zone 0 ; any : never ; any : now by 1 mail ; any : day 3 by 2 dog bird ; any : now by 1 cat", "dog"),
            ("zone 0 ; any : now by 2 mail zoo ; any : now by 1 ant", "zoo"),
        ):
            self.assertEqual(self.refused(NoRoad, ("wish", 5, "ann", text)).road, road)
        self.assertEqual(self.refused(NoRoad, GOOD[0], 5, {}).road, "pager")
        self.assertEqual(self.refused(NoRoad, GOOD[0], 5, {"pager": True}).road, "mail")
        self.assertIs(type(checked(("wish", 5, "ann", "zone 0 ; any : never"), 5, {}, 0)), Wishes)

    def test_no_happening(self):
        for bad in helper.bad_names():
            self.refused(NoHappening, ("happen", 5, bad, "hall", 3))
            self.refused(NoHappening, ("happen", 5, "fire", bad, 3))
        for bad in helper.bad_wholes(0):
            self.refused(NoHappening, ("happen", 5, "fire", "hall", bad))

    def test_no_number(self):
        for count in (0, 1, 2, 7):
            for row in (("take", 5, "ann", 0), ("later", 5, "ann", 0, 6), ("back", 5, 0)):
                place = 2 if row[0] == "back" else 3
                for number in (0, 1, 2, 6, 7, 10 ** 6):
                    changed = rows_with(row, place, [number])[0]
                    if number < count:
                        self.assertIsNone(checked(changed, 5, KNOWN, count))
                    else:
                        self.refused(NoNumber, changed, 5, KNOWN, count)

    def test_no_time(self):
        for until in (5, 4, 0, -10 ** 13):
            self.refused(NoTime, ("later", 5, "ann", 1, until))
        for until in (6, 7, 10 ** 13):
            self.assertIsNone(checked(("later", 5, "ann", 1, until), 5, KNOWN, 2))
        self.refused(NoTime, ("later", -5, "ann", 1, -5), None)
        self.assertIsNone(checked(("later", -5, "ann", 1, -4), None, KNOWN, 2))

    def test_two_faults_by_their_order(self):
        road = "zone 0 ; any : now by 1 bird"
        for refusal, row in (
            (NoRow, ("wish", 4, "Ann", "zone")), (NoRow, ("wish", 4, 5, road)), (NoRow, ("take", 4, "ann", -1)),
            (NoRow, ("happen", True, "Fire", "", -1)), (NoRow, ("later", 4, "ann", 9, None)), (NoRow, ("back", 4, -1)),
            (NoRow, ("later", 4, "ann", True, 3)), (NoRow, ("go", 4, 4)), (NoRow, ("happen", 4, "Fire", "hall")),
            (Backward, ("wish", 4, "ann", "zone")), (Backward, ("wish", 4, "ann", road)),
            (Backward, ("happen", 4, "Fire", "hall", 3)), (Backward, ("take", 4, "ann", 9)),
            (Backward, ("later", 4, "ann", 9, 3)), (Backward, ("later", 4, "ann", 1, 3)), (Backward, ("back", 4, 9)),
            (NoText, ("wish", 5, "ann", road + " ; any")), (NoText, ("wish", 5, "ann", "zone 1440 ; any : now by 1 bird")),
            (NoNumber, ("later", 5, "ann", 9, 5)), (NoNumber, ("later", 5, "ann", 2, 4)),
        ):
            self.refused(refusal, row)

    def test_as_reckoned(self):
        texts = {TEXT: (60, None, None, [(("any",), ("now",), ["pager", "mail"], False, None)])}
        places = (
            ("wish", "happen", "take", "later", "back", "go", "try", 5), (4, 5, 6, True, None, "5"),
            ("ann", "Ann", "fire", 0, 9, None), (TEXT, "zone", 0, 9, "hall", -1), (4, 5, 6, True, "6"),
        )
        for length in range(6):
            for row in itertools.product(*places[:length]):
                house = helper.PlainHouse([("pager", 0, False)], 1, texts)
                house.at = 5
                house.things = [("fire", "hall", 3)] * 2
                told = house.refusal(row)
                try:
                    checked(row, 5, {"pager": True}, 2)
                    found = None
                except helper.errors.BellError as refusal:
                    fields = list(vars(refusal).values()) or [None]
                    found = (type(refusal).__name__, fields[0])
                self.assertEqual(found, told, row)


if __name__ == "__main__":
    unittest.main()
