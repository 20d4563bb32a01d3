"""Rows: which tuples are rows that a house may be put, and in which order what is wrong with one is refused."""

from bellsaway.errors import Backward, NoNumber, NoRoad, NoRow, NoTime
from bellsaway.happenings import Happening, is_name
from bellsaway.wholes import is_whole, is_whole_from
from bellsaway.wording import read_wishes

LENGTHS = {"wish": 4, "happen": 5, "take": 4, "later": 5, "back": 3, "go": 2}


def has_word_and_length(thing):
    if not isinstance(thing, tuple) or len(thing) == 0 or not isinstance(thing[0], str):
        return False
    return LENGTHS.get(thing[0]) == len(thing)


def is_row(thing):
    # A wish's text and what happens are looked at behind the row's moment: they have refusals of their own.
    if not has_word_and_length(thing) or not is_whole(thing[1]):
        return False
    word = thing[0]
    if word == "wish":
        return is_name(thing[2])
    if word == "take":
        return is_name(thing[2]) and is_whole_from(thing[3], 0)
    if word == "later":
        return is_name(thing[2]) and is_whole_from(thing[3], 0) and is_whole(thing[4])
    if word == "back":
        return is_whole_from(thing[2], 0)
    return True


def number_in(row):
    return row[2] if row[0] == "back" else row[3]


def check_roads_in(wishes, known):
    for line in wishes.lines:
        for road in line.roads:
            if road not in known:
                raise NoRoad(road)


def check_number(row, count):
    if number_in(row) >= count:
        raise NoNumber("no happening has this number yet")
    if row[0] == "later" and row[4] <= row[1]:
        raise NoTime("what is put later is put behind the row's moment")


def checked(row, now, known, count):
    # What the row bears is told, so that it is made once: the wishes, or the happening; else None.
    if not is_row(row):
        raise NoRow("a row is a tuple of its word, a moment, and what this word asks for")
    if now is not None and row[1] < now:
        raise Backward(now)
    if row[0] == "wish":
        wishes = read_wishes(row[3])
        check_roads_in(wishes, known)
        return wishes
    if row[0] == "happen":
        return Happening(row[2], row[3], row[4])
    if row[0] != "go":
        check_number(row, count)
    return None
