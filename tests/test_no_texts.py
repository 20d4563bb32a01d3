"""Texts that nothing is shown by, and what is no text, are refused with NoText (points 16 to 18)."""

import itertools
import random
import unittest

import helper
from bellsaway.errors import NoText
from bellsaway.wording import read_fit, read_line, read_wishes, show_fit, show_line, show_wishes

SIXTY_ONE = "1" + "0" * 60
NO_NUMBERS = (
    "", "-", "--1", "-0", "+1", "00", "01", "-01", "007", "1.0", "1e3", "1_000", "0x1", "1-", " 1", "1\n", "one", "a",
    SIXTY_ONE, "-" + SIXTY_ONE, "9" * 61, "0" * 61, "9" * 5000, "True", "None", "(", ")", "&", ":", ";",
)
BAD_FITS = (
    "", " ", "\n", "any ", " any", "any\n", "\nany", "Any", "ANY", "anything", "any any", "all", "a", "fire",
    "kind", "place", "weight", "not", "kind ", "kind  fire", "kind fire ", "kind fire  flood", "kind Fire",
    "kind fire1", "kind abcdefghi", "kind fire fire", "kind a b a", "place a a", "kind fire, flood", "kind fire\n",
    "kind\nfire", "kind 1", "place 1", "kind fire 1", "kind ( fire )", "kind [ fire ]", "weight -1", "weight 3 4",
    "weight 3 any", "weight  3", "weight three", "not not", "not", "not  any", "not any any", "not any not",
    "any not", "notany", "(", ")", "()", "( )", "( any )", "(any & any)", "( any & any", "any & any )", "any & any",
    "any | any", "( any any )", "( any & )", "( & any )", "( any && any )", "( any & & any )", "( any & any & )",
    "( any & any | any )", "( any | any & any )", "( any & any ) any", "( any & any ) & any", "( any , any )",
    "( any and any )", "( any or any )", "( ( any & any ) )", "( any & ( any ) )", "( any &  any )",
    "(  any & any )", "( any & any  )", "( any & any ) ", "( any & any ))", "( any & any ) )", "( ( any & any )",
    "[ any & any ]", "( any & any ]", "( not & any )", "( kind & any )", "( kind a & place )", "( kind a a | any )",
    "( weight -1 | any )", "( weight 01 | any )", "not ( any )", "not ( any & any | any )",
    "( kind a & kind b | kind c )", "any : never", "zone 0",
)
BAD_LINES = (
    "", " ", "any", "any :", "any : ", ": never", "any never", "any: never", "any :never", "any  : never",
    "any :  never", "any : never ", " any : never", "any : never\n", "any : Never", "any : sometimes",
    "any : never never", "any : : never", "any : never by", "any : never by 0", "any : never by 1 mail",
    "any : never sure", "any : never raise 1 0", "any : never 0", "any : now", "any : now by", "any : now by 0",
    "any : now by 1", "any : now by 2 mail", "any : now by 1 mail pager", "any : now by 2 mail mail",
    "any : now by 3 a b a", "any : now by mail", "any : now mail", "any : now 1 mail", "any : now by 01 mail",
    "any : now by -1 mail", "any : now by +1 mail", "any : now by 1 Mail", "any : now by 1 abcdefghi",
    "any : now by 1 7", "any : now by 1  mail", "any : now by 1 mail ", "any : now by 1 ", "any : now by 2 mail ",
    "any : now by 999999999999 mail", "any : now by -999999999999 mail", "any : now 5 by 1 mail",
    "any : now by " + "9" * 60 + " mail", "any : hour by 1 mail", "any : hour 60 by 1 mail",
    "any : hour -1 by 1 mail", "any : hour 05 by 1 mail", "any : hour 5", "any : hour 5 5 by 1 mail",
    "any : day by 1 mail", "any : day 1440 by 1 mail", "any : day -1 by 1 mail", "any : day 0480 by 1 mail",
    "any : day -0 by 1 mail", "any : day 480", "any : hour", "any : now by 1 mail surely",
    "any : now by 1 mail sure sure", "any : now by 1 mail Sure", "any : now sure by 1 mail",
    "any : now by 1 mail raise", "any : now by 1 mail raise 10", "any : now by 1 mail raise 0 3",
    "any : now by 1 mail raise -1 3", "any : now by 1 mail raise 10 -1", "any : now by 1 mail raise 010 3",
    "any : now by 1 mail raise 10 03", "any : now by 1 mail raise 10 3 Boss",
    "any : now by 1 mail raise 10 3 boss boss", "any : now by 1 mail raise 10 3 4",
    "any : now by 1 mail raise 10 3 abcdefghi", "any : now by 1 mail raise 10 3 boss sure",
    "any : now by 1 mail raise 10 3 ", "any : now by 1 mail raise boss", "any : now by 1 mail raise 10 boss",
    "any : now by 1 mail raise 10 3 raise 10 3", "any : now by 1 mail sure raise",
    "any : now by 1 sure raise 10 3 a b", "( any ) : never", "any any : never", "kind : never",
    "kind fire fire : never", "weight -1 : never", "kind fire , never", "any ; never", "any : never ;",
    "any : never ; any : never", "zone 0 ; any : never", "zone 0",
)
BAD_WISHES = (
    "", " ", "zone", "zone ", "zone 0 ", " zone 0", "zone  0", "zone 0\n", "Zone 0", "zone 1440", "zone -1440",
    "zone -0", "zone 00", "zone +1", "zone 01", "zone a", "zone 0 0", "zone 0;", "zone 0 ;", "zone 0 ; ",
    "; zone 0", "zone ; 0", "zone 0 ; ; any : never", "zone 0 ;; any : never", "zone 0; any : never",
    "zone 0 ;any : never", "zone 0 ;  any : never", "zone 0  ; any : never", "zone 0 ; any : never ;",
    "zone 0 ; any : never ; ", "zone 0 any : never", "any : never", "any : never ; zone 0", "zone 0 ; zone 0",
    "zone 0 ; any : never ; zone 0", "quiet 1 2", "quiet 1 2 ; zone 0", "zone 0 ; quiet", "zone 0 ; quiet 1",
    "zone 0 ; quiet 1 1", "zone 0 ; quiet 1 1440", "zone 0 ; quiet -1 5", "zone 0 ; quiet 1440 5",
    "zone 0 ; quiet 01 5", "zone 0 ; quiet 1 05", "zone 0 ; quiet 1 -0", "zone 0 ; quiet 1 2 -1",
    "zone 0 ; quiet 1 2 03", "zone 0 ; quiet 1 2 3 4", "zone 0 ; quiet 1 2 none", "zone 0 ; quiet 1 2 None",
    "zone 0 ; quiet none", "zone 0 ; quiet 1 2 ", "zone 0 ; quiet 1 2 ;", "zone 0 ; quiet 1 2 ; quiet 1 2",
    "zone 0 ; any : never ; quiet 1 2", "zone 0 quiet 1 2", "zone 0 ; quiet 1 2 any : never", "zone 0 ; wake 7",
    "zone 0 ; quiet 1 2 " + SIXTY_ONE, "zone 0 ; any", "zone 0 ; any : now", "zone 0 ; any : now by 0",
    "zone 0 ; any : never by 1 mail", "zone 0 ; kind a a : never", "zone 0 ; any : now by 2 mail ; any : never",
    "zone 0 ; any : now by 1 mail raise 0 1 ; any : never", "zone 0\n; any : never", "zone 0 ;\nany : never",
    "zone 0 ; any : now by 3 mail ; any", "zone 0 ; any : now by 1 ;", "zone 0 ; any : now by 1 ; ; any : never",
)


def fit_texts(length):
    """All fits of so many words, as lists of words, of the words that Every.test_fits takes."""
    found = [["any"]] if length == 1 else []
    if length >= 2:
        found += [["kind"] + list(names) for names in
                  itertools.permutations(("any", "kind", "weight", "not", "a"), length - 1)]
        found += [["weight", "1"]] if length == 2 else []
        found += [["not"] + fit for fit in fit_texts(length - 1)]
        found += [["("] + row + [")"] for sign in "&|" for row in rows_of_fits(length - 2, sign)]
    return found


def rows_of_fits(length, sign):
    """Rows of two fits at least, of so many words, with the sign between two."""
    found = []
    for first in range(1, length - 1):
        rest = length - first - 1
        for row in fit_texts(rest) + rows_of_fits(rest, sign):
            found += [fit + [sign] + row for fit in fit_texts(first)]
    return found


def tails_of_lines(most):
    names = ("now", "never", "hour", "by", "a", "sure", "raise")
    ways = (["now"], ["hour", "1"], ["hour", "2"])
    found = [["never"]]
    for way in ways:
        for count in (1, 2):
            for roads in itertools.permutations(names, count):
                row = way + ["by", str(count)] + list(roads)
                found += [row, row + ["sure"]]
                for raised in itertools.product(("1", "2"), ("1", "2")):
                    found += [row + ["raise"] + list(raised), row + ["sure", "raise"] + list(raised)]
    return {" ".join(row) for row in found if len(row) <= most}


class Case(helper.Case):
    def assert_no_text(self, read, text):
        refusal = self.assert_refused(NoText, read, text)
        self.assertEqual(refusal.line, 0)
        self.assertIs(type(refusal.line), int)


class WrittenOut(Case):
    def test_fits(self):
        for text in BAD_FITS:
            self.assert_no_text(read_fit, text)
            self.assert_no_text(read_line, text + " : never")
            self.assert_no_text(read_wishes, "zone 0 ; " + text + " : never")
            self.assert_no_text(read_fit, "not " + text)
            self.assert_no_text(read_fit, "( not " + text + " | any & any )")

    def test_lines(self):
        for text in BAD_LINES:
            self.assert_no_text(read_line, text)

    def test_lines_within_wishes(self):
        for text in BAD_LINES:
            if text != "any : never ; any : never":
                self.assert_no_text(read_wishes, "zone 0 ; " + text)
                self.assert_no_text(read_wishes, "zone 0 ; quiet 1 2 ; any : never ; " + text)
                self.assert_no_text(read_wishes, "zone 0 ; " + text + " ; any : never")

    def test_wishes(self):
        for text in BAD_WISHES:
            self.assert_no_text(read_wishes, text)

    def test_numbers_at_each_place(self):
        for word in NO_NUMBERS:
            self.assert_no_text(read_fit, "weight " + word)
            self.assert_no_text(read_line, "any : hour {} by 1 mail".format(word))
            self.assert_no_text(read_line, "any : day {} by 1 mail".format(word))
            self.assert_no_text(read_line, "any : now by {} mail".format(word))
            self.assert_no_text(read_line, "any : now by 1 mail raise {} 3".format(word))
            self.assert_no_text(read_line, "any : now by 1 mail raise 10 {}".format(word))
            self.assert_no_text(read_wishes, "zone " + word)
            self.assert_no_text(read_wishes, "zone 0 ; quiet {} 7".format(word))
            self.assert_no_text(read_wishes, "zone 0 ; quiet 7 {}".format(word))
            if word != ";":
                self.assert_no_text(read_wishes, "zone 0 ; quiet 7 8 {}".format(word))

    def test_what_is_no_text(self):
        for thing in helper.THINGS + (["any"], ("any",), b"any", b"zone 0"):
            if not isinstance(thing, str):
                self.assert_no_text(read_fit, thing)
                self.assert_no_text(read_line, thing)
                self.assert_no_text(read_wishes, thing)

    def test_texts_of_the_others(self):
        self.assert_no_text(read_fit, "any : never")
        self.assert_no_text(read_line, "any")
        self.assert_no_text(read_line, "zone 0 ; any : never")
        self.assert_no_text(read_wishes, "any : never")

    def test_texts_that_open_and_never_close(self):
        for word in ("( ", "not ", "( not ", "( any & ", "( ( any | any ) & ( "):
            self.assert_no_text(read_fit, word * 20000)
            self.assert_no_text(read_fit, word * 20000 + ")")
            self.assert_no_text(read_line, word * 20000 + ": never")
            self.assert_no_text(read_wishes, "zone 0 ; " + word * 20000)
        self.assert_no_text(read_fit, "( " * 20000 + "any" + " )" * 20000)


class Every(Case):
    """Each text of some words, one by one: just those that are written are read."""

    def assert_just(self, head, words, most, read, show, right):
        told = set()
        for length in range(most + 1):
            for row in itertools.product(words, repeat=length):
                text = " ".join(head + row)
                try:
                    found = read(text)
                except NoText:
                    continue
                self.assertEqual(show(found), text)
                told.add(text)
        self.assertEqual(told, right)

    def test_fits(self):
        words = ("any", "kind", "weight", "not", "a", "1", "(", ")", "&", "|")
        right = {" ".join(row) for length in range(1, 6) for row in fit_texts(length)}
        self.assertIn("( any & any )", right)
        self.assert_just((), words, 5, read_fit, show_fit, right)

    def test_brackets(self):
        words = ("any", "(", ")", "&", "|")
        right = {"any", "( any & any )", "( any | any )", "( any & any & any )", "( any | any | any )"}
        self.assert_just((), words, 7, read_fit, show_fit, right)

    def test_lines(self):
        words = ("now", "never", "hour", "by", "a", "sure", "raise", "1", "2")
        right = {"any : " + tail for tail in tails_of_lines(5)}
        self.assert_just(("any", ":"), words, 5, read_line, show_line, right)

    def test_ends_of_lines(self):
        words = ("sure", "raise", "a", "0", "1")
        raises = ["raise 1 0", "raise 1 1"]
        raises += [text + " " + to for text in raises for to in ("sure", "raise", "a")]
        tails = ["", " sure"] + [" " + text for text in raises] + [" sure " + text for text in raises]
        right = {"any : now by 1 a" + tail for tail in tails}
        self.assert_just(("any", ":", "now", "by", "1", "a"), words, 6, read_line, show_line, right)

    def test_wishes(self):
        words = (";", "quiet", "any", ":", "never", "0", "1")
        quiets = [start_end + wake for start_end in (" ; quiet 0 1", " ; quiet 1 0") for wake in ("", " 0", " 1")]
        right = {"zone 0" + tail for tail in ["", " ; any : never"] + quiets}
        self.assert_just(("zone", "0"), words, 5, read_wishes, show_wishes, right)

    def test_ends_of_wishes(self):
        words = (";", "quiet", "any", ":", "never", "1")
        tails = ("", " 1", " ; any : never", " 1 ; any : never")
        right = {"zone 0 ; quiet 1 0" + tail for tail in tails}
        self.assert_just(("zone", "0", ";", "quiet", "1", "0"), words, 5, read_wishes, show_wishes, right)


class Changed(Case):
    def changes(self, chance, text):
        words = text.split(" ")
        at = chance.randrange(len(words))
        other = chance.choice(words + ["any", "a", "0", "-0", "01", "", ":", ";", "&", "|", "(", ")", "sure", "by"])
        sign = chance.randrange(len(text) + 1)
        return (
            " ".join(words[:at] + words[at + 1:]), " ".join(words[:at] + [other] + words[at:]),
            " ".join(words[:at] + [other] + words[at + 1:]), " ".join(words[:at] + [words[at]] + words[at:]),
            " ".join(words[:at]), " ".join(words[at:]), " ".join(words[at:] + words[:at]), text + " " + other,
            text[:sign] + text[sign + 1:], text[:sign] + chance.choice(" 0-a;)\nA") + text[sign:],
        )

    def assert_read_is_shown(self, read, show, text):
        try:
            found = read(text)
        except NoText as refusal:
            self.assertEqual(refusal.line, 0)
            return False
        self.assertEqual(show(found), text)
        return True

    def assert_changed(self, read, show, texts, seed):
        chance = random.Random(seed)
        changed = [other for text in texts for other in self.changes(chance, text)]
        told = [self.assert_read_is_shown(read, show, text) for text in changed]
        self.assertIn(True, told)
        self.assertIn(False, told)

    def test_fits(self):
        chance = random.Random(31)
        texts = [helper.text_of(helper.any_shape(chance, 3)) for turn in range(500)]
        self.assert_changed(read_fit, show_fit, texts, 34)

    def test_lines(self):
        chance = random.Random(32)
        texts = [helper.line_text(helper.any_line(chance)) for turn in range(500)]
        self.assert_changed(read_line, show_line, texts, 35)

    def test_wishes(self):
        chance = random.Random(33)
        texts = [helper.wishes_text(helper.any_wishes(chance)) for turn in range(500)]
        self.assert_changed(read_wishes, show_wishes, texts, 36)


if __name__ == "__main__":
    unittest.main()
