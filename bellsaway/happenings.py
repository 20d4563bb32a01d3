"""Happenings: something of a kind, at a place, with a weight; and which texts are names."""

from bellsaway.errors import NoHappening
from bellsaway.wholes import is_whole_from

LETTERS = "abcdefghijklmnopqrstuvwxyz"
MOST_LETTERS = 8


def is_name(thing):
    if not isinstance(thing, str) or len(thing) < 1 or len(thing) > MOST_LETTERS:
        return False
    return all([sign in LETTERS for sign in thing])


class Happening:
    def __init__(self, kind, place, weight):
        if not is_name(kind) or not is_name(place):
            raise NoHappening("a kind and a place are names of one to eight small letters")
        if not is_whole_from(weight, 0):
            raise NoHappening("a weight is a whole number from 0 on")
        self.kind = kind
        self.place = place
        self.weight = weight
