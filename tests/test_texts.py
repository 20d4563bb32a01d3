"""Rows and books as texts, read to the same, and all that nothing is shown by (points 46, 47)."""

import random
import unittest

import helper
from bellsaway.errors import NoText
from bellsaway.house import House
from bellsaway.texts import read_book, read_row, show_book

WISHES = "zone -60 ; quiet 1320 420 7 ; kind fire not : day 480 by 2 pager mail sure raise 10 3 boss ; any : never"
LINES = (
    (("wish", 5, "ann", "zone 0"), "wish 5 ann zone 0"),
    (("wish", -5, "wish", WISHES), "wish -5 wish " + WISHES),
    (("happen", 0, "fire", "hall", 0), "happen 0 fire hall 0"),
    (("happen", -1440, "happen", "abcdefgh", 999999), "happen -1440 happen abcdefgh 999999"),
    (("take", 10 ** 13, "ann", 0), "take 10000000000000 ann 0"),
    (("later", 5, "ann", 12, 4), "later 5 ann 12 4"),
    (("later", -5, "ann", 0, -4), "later -5 ann 0 -4"),
    (("back", 7, 199), "back 7 199"),
    (("go", 10 ** 60 - 1), "go " + "9" * 60),
    (("go", 1 - 10 ** 60), "go -" + "9" * 60),
    (("try", 5, "ann", "bell", "mail", ((0, 0),)), "try 5 ann bell mail 0.0"),
    (("try", -5, "bell", "off", "off", ((3, 1), (12, 0), (199, 45))), "try -5 bell off off 3.1 12.0 199.45"),
    (("try", 5, "ann", "bell", "mail", ((2, 0), (1, 0), (1, 0))), "try 5 ann bell mail 2.0 1.0 1.0"),
    (("end", 5, "took"), "end 5 took"), (("end", -5, "not"), "end -5 not"), (("end", 0, "perhaps"), "end 0 perhaps"),
)
BAD_NUMBERS = ("", "-", "-0", "00", "01", "-01", "+1", "1.0", "a", "1a", "1" * 61, "--1", "0x1", "1_0", "1e3")
BAD_COUNTS = BAD_NUMBERS + ("-1", "-10")
BAD_NAMES = ("", "A", "Ann", "ann1", "1", "abcdefghi", "a-b", "a.b", "{")
BAD_STAMPS = ("", ".", "0", "0.", ".0", "0.0.0", "0..0", "-1.0", "0.-1", "00.0", "0.00", "01.0", "0.01", "0,0", "a.0",
              "0.a", "-0.0", "0.-0", "(0, 0)", "0.0,", "1" * 61 + ".0", "+1.0")
NO_WISHES = ("", "zone", "zone 1440", "zone 0 ;", "zone 0 ", " zone 0", "any : never", "zone 0 ; any : now by 0",
             "zone 0 ; quiet 5 5", "zone 0 ; any : now by 2 mail mail", "zone 00", "zone 0 ; any : hour 60 by 1 mail")


def bad_lines():
    """Texts of one line that nothing is shown by."""
    yield from ("", " ", "go", "go ", " go 5", "go 5 ", "go  5", "go 5 5", "Go 5", "GO 5", "five", "5", "go five", "go\t5",
                "('go', 5)", "raise 5", "wish", "wish 5", "wish 5 ann", "happen 5 fire hall", "house 5", "book", "rise")
    for text in [text for line, text in LINES]:
        words = text.split(" ")
        yield " " + text
        yield text + " "
        yield text.upper()
        yield text + " x"
        yield "x " + text
        if words[0] != "try" or len(words) == 6:
            yield " ".join(words[:-1])
        for place in range(len(words) - 1):
            yield " ".join(words[:place + 1] + [""] + words[place + 1:])
        for count in range(1, min(len(words), 4 if words[0] == "wish" else len(words) if words[0] != "try" else 6)):
            yield " ".join(words[:count])
    for bad in BAD_NUMBERS:
        for form in ("wish {} ann zone 0", "happen {} fire hall 0", "take {} ann 0", "later {} ann 0 5", "later 5 ann 0 {}",
                     "back {} 0", "go {}", "try {} ann bell mail 0.0", "end {} took"):
            yield form.format(bad)
    for bad in BAD_COUNTS:
        for form in ("happen 5 fire hall {}", "take 5 ann {}", "later 5 ann {} 6", "back 5 {}"):
            yield form.format(bad)
    for bad in BAD_NAMES:
        for form in ("wish 5 {} zone 0", "happen 5 {} hall 0", "happen 5 fire {} 0", "take 5 {} 0", "later 5 {} 0 5",
                     "try 5 {} bell mail 0.0", "try 5 ann bell {} 0.0"):
            yield form.format(bad)
    for bad in ("", "Bell", "on", "took", "bells", "fire"):
        yield "try 5 ann {} mail 0.0".format(bad)
    for bad in ("", "Took", "fall", "yes", "none", "bell", "true"):
        yield "end 5 " + bad
    for bad in BAD_STAMPS:
        yield "try 5 ann bell mail " + bad
        yield "try 5 ann bell mail 0.0 " + bad
        yield "try 5 ann bell mail {} 0.0".format(bad)
    for bad in NO_WISHES:
        yield "wish 5 ann " + bad


class Shown(helper.Case):
    def test_each_line(self):
        for line, text in LINES:
            self.assertEqual(show_book([line]), text)

    def test_books(self):
        self.assertEqual(show_book([]), "")
        self.assertEqual(show_book([line for line, text in LINES]), "\n".join(text for line, text in LINES))

    def test_nothing_is_changed(self):
        lines = [line for line, text in LINES]
        show_book(lines)
        self.assertEqual(lines, [line for line, text in LINES])


class Read(helper.Case):
    def test_each_line(self):
        for line, text in LINES:
            found = read_book(text)
            self.assertEqual(helper.taken_apart(found), helper.taken_apart([line]))

    def test_books(self):
        self.assertEqual(read_book(""), [])
        found = read_book("\n".join(text for line, text in LINES))
        self.assertEqual(helper.taken_apart(found), helper.taken_apart([line for line, text in LINES]))

    def test_rows_alone(self):
        for line, text in LINES:
            if line[0] in ("try", "end"):
                self.assert_refused(NoText, read_row, text)
            else:
                self.assertEqual(helper.taken_apart(read_row(text)), helper.taken_apart(line))
            self.assert_refused(NoText, read_row, text + "\n" + text)
        for bad in bad_lines():
            self.assert_refused(NoText, read_row, bad)

    def test_whole_books_both_ways(self):
        for seed in range(60):
            chance = random.Random(seed)
            scene = helper.Scene(chance, chance.choice((0, 1, 5, 25)))
            house = House(scene.made_roads(), scene.pause, scene.answer)
            for row in scene.rows:
                house.put(row)
            text = show_book(house.book())
            self.assertEqual(helper.taken_apart(read_book(text)), helper.taken_apart(house.book()))
            self.assertEqual(show_book(read_book(text)), text)

    def test_wishes_of_all_kinds(self):
        chance = random.Random(47)
        for turn in range(200):
            text = "wish 5 ann " + helper.wishes_text(helper.any_wishes(chance))
            self.assertEqual(read_book(text), [("wish", 5, "ann", text[11:])])

    def test_whatever_is_read_is_shown_by_the_same_text(self):
        chance = random.Random(46)
        signs = "ab.0-1 \n"
        read = 0
        for turn in range(4000):
            line, text = chance.choice(LINES)
            place = chance.randrange(len(text))
            changed = text[:place] + chance.choice(("", chance.choice(signs))) + text[place + chance.choice((0, 1)):]
            try:
                found = read_book(changed)
            except NoText:
                continue
            self.assertEqual(show_book(found), changed)
            read += 1
        self.assertGreater(read, 500)


class Refused(helper.Case):
    def assert_line(self, number, text):
        told = self.assert_refused(NoText, read_book, text)
        self.assertEqual((told.line, type(told.line)), (number, int))

    def test_what_is_no_text(self):
        for thing in helper.THINGS + ([], ["go 5"], ("go", 5), [("go", 5)]):
            if type(thing) is not str:
                self.assert_line(0, thing)

    def test_lines(self):
        for bad in bad_lines():
            if bad != "":
                self.assert_line(0, bad)
            self.assert_line(1, "go 5\n" + bad)
            self.assert_line(0, bad + "\ngo 5")

    def test_the_first_line_that_can_not_be_read(self):
        texts = [text for line, text in LINES]
        for number in range(len(texts) + 1):
            for bad in ("", "go", "end 5 no"):
                self.assert_line(number, "\n".join(texts[:number] + [bad] + texts[number:]))
                self.assert_line(number, "\n".join(texts[:number] + [bad, bad] + texts[number:] + [bad]))

    def test_line_feeds_too_many(self):
        self.assert_line(0, "\n")
        self.assert_line(0, "\n\n")
        self.assert_line(1, "go 5\n")
        self.assert_line(0, "\ngo 5")
        self.assert_line(1, "go 5\n\ngo 6")
        self.assert_line(2, "go 5\ngo 6\n")


if __name__ == "__main__":
    unittest.main()
