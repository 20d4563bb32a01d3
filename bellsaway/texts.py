"""Rows and books as texts, and read again from them."""

from bellsaway.bells import BELL, NOT, OFF, PERHAPS, TOOK
from bellsaway.errors import NoText
from bellsaway.wording import read_wishes
from bellsaway.words import Words


def show_stamps(stamps):
    return " ".join([str(stamp[0]) + "." + str(stamp[1]) for stamp in stamps])


def show_parts(parts):
    # Stamps are the one part of a line that is a tuple.
    return " ".join([show_stamps(part) if isinstance(part, tuple) else str(part) for part in parts])


def show_book(lines):
    return "\n".join([show_parts(line) for line in lines])


def read_book(text):
    if not isinstance(text, str):
        raise NoText()
    # The text without signs is a book without lines, not one of a line without signs.
    rows = [] if text == "" else text.split("\n")
    lines = []
    for number, row in enumerate(rows):
        try:
            line = read_whole_line(row, line_from)
        except NoText:
            raise NoText(number) from None
        lines.append(line)
    return lines


def read_row(text):
    return read_whole_line(text, row_from)


def read_whole_line(text, part_from):
    words = Words(text)
    line = part_from(words)
    words.expect_end()
    return line


def line_from(words):
    if words.takes("try"):
        return try_from(words)
    if words.takes("end"):
        return ("end", words.take_number(), words.take_one_of((TOOK, NOT, PERHAPS)))
    return row_from(words)


def try_from(words):
    moment = words.take_number()
    hand = words.take_name()
    word = words.take_one_of((BELL, OFF))
    road = words.take_name()
    stamps = [stamp_from(words)]
    while not words.is_ended():
        stamps.append(stamp_from(words))
    return ("try", moment, hand, word, road, tuple(stamps))


def stamp_from(words):
    parts = Words(words.take().replace(".", " "))
    stamp = (parts.take_count(), parts.take_count())
    parts.expect_end()
    return stamp


def row_from(words):
    word = words.take()
    if word == "wish":
        return (word, words.take_number(), words.take_name(), wishes_text_from(words))
    if word == "happen":
        return (word, words.take_number(), words.take_name(), words.take_name(), words.take_count())
    if word == "take":
        return (word, words.take_number(), words.take_name(), words.take_count())
    if word == "later":
        return (word, words.take_number(), words.take_name(), words.take_count(), words.take_number())
    if word == "back":
        return (word, words.take_number(), words.take_count())
    if word == "go":
        return (word, words.take_number())
    raise NoText()


def wishes_text_from(words):
    text = " ".join(words.take_rest())
    read_wishes(text)
    return text
