"""Fits, which tell of each happening whether it fits, and what parts a fit from another one."""

from bellsaway.errors import NoFit
from bellsaway.happenings import Happening
from bellsaway.wholes import is_whole_from
from bellsaway.words import are_unlike_names, unused_name


# Besides fits_it, each fit has two methods for the search below. note_turns marks the kinds, places
# and weights at which it may turn. weight_bits tells which weights fit at a kind and a place, all at
# once: a bit each, from_weight having for each weight the bits of this and all greater ones.
class Fit:
    pass


class Any(Fit):
    def fits_it(self, happening):
        return True

    def note_turns(self, kinds, places, weights):
        pass

    def weight_bits(self, kind, place, from_weight):
        return from_weight[0]


class Kind(Fit):
    def __init__(self, names):
        check_names(names)
        self.names = list(names)

    def fits_it(self, happening):
        return happening.kind in self.names

    def note_turns(self, kinds, places, weights):
        mark(kinds, self.names)

    def weight_bits(self, kind, place, from_weight):
        return from_weight[0] if kind in self.names else 0


class Place(Fit):
    def __init__(self, names):
        check_names(names)
        self.names = list(names)

    def fits_it(self, happening):
        return happening.place in self.names

    def note_turns(self, kinds, places, weights):
        mark(places, self.names)

    def weight_bits(self, kind, place, from_weight):
        return from_weight[0] if place in self.names else 0


class Least(Fit):
    def __init__(self, weight):
        if not is_whole_from(weight, 0):
            raise NoFit("a weight is a whole number from 0 on")
        self.weight = weight

    def fits_it(self, happening):
        return happening.weight >= self.weight

    def note_turns(self, kinds, places, weights):
        mark(weights, [self.weight])

    def weight_bits(self, kind, place, from_weight):
        return from_weight[self.weight]


class Not(Fit):
    def __init__(self, fit):
        check_fit(fit)
        self.fit = fit

    def fits_it(self, happening):
        return not self.fit.fits_it(happening)

    def note_turns(self, kinds, places, weights):
        self.fit.note_turns(kinds, places, weights)

    def weight_bits(self, kind, place, from_weight):
        return from_weight[0] ^ self.fit.weight_bits(kind, place, from_weight)


class Both(Fit):
    def __init__(self, fits):
        check_fits(fits)
        self.fits = list(fits)

    def fits_it(self, happening):
        return all([fit.fits_it(happening) for fit in self.fits])

    def note_turns(self, kinds, places, weights):
        for fit in self.fits:
            fit.note_turns(kinds, places, weights)

    def weight_bits(self, kind, place, from_weight):
        fitting = from_weight[0]
        for fit in self.fits:
            fitting = fitting & fit.weight_bits(kind, place, from_weight)
        return fitting


class Either(Fit):
    def __init__(self, fits):
        check_fits(fits)
        self.fits = list(fits)

    def fits_it(self, happening):
        return any([fit.fits_it(happening) for fit in self.fits])

    def note_turns(self, kinds, places, weights):
        for fit in self.fits:
            fit.note_turns(kinds, places, weights)

    def weight_bits(self, kind, place, from_weight):
        fitting = 0
        for fit in self.fits:
            fitting = fitting | fit.weight_bits(kind, place, from_weight)
        return fitting


def check_names(names):
    if not are_unlike_names(names) or len(names) == 0:
        raise NoFit("the names of a fit are a list of unlike names, one at least")


def check_fit(fit):
    if not isinstance(fit, Fit):
        raise NoFit("what is within a fit is a fit")


def check_fits(fits):
    if not isinstance(fits, list) or len(fits) < 2:
        raise NoFit("the fits within a fit are a list of two at least")
    for fit in fits:
        check_fit(fit)


def mark(marks, things):
    for thing in things:
        marks[thing] = True


def parting(one, other):
    return firsts([other, one])[1]


def firsts(fits):
    # For each fit a happening that it fits and none ahead of it does, or None. A fit turns at the names
    # and weights within it alone, so one name beside those that are named stands for all others, and
    # a weight for all up to the next one that is named.
    kinds = {}
    places = {}
    weights = {0: True}
    for fit in fits:
        fit.note_turns(kinds, places, weights)
    from_weight = bits_from_weights(sorted(weights, reverse=True))
    found = [None for fit in fits]
    for kind in list(kinds) + [unused_name(kinds)]:
        for place in list(places) + [unused_name(places)]:
            find_firsts(found, fits, kind, place, from_weight)
    return found


def bits_from_weights(falling):
    from_weight = {}
    bits = 0
    for weight in falling:
        bits = bits * 2 + 1
        from_weight[weight] = bits
    return from_weight


def find_firsts(found, fits, kind, place, from_weight):
    free = from_weight[0]
    for number, fit in enumerate(fits):
        won = free & fit.weight_bits(kind, place, from_weight)
        free = free ^ won
        if won != 0 and found[number] is None:
            # The weights fall as they stand in from_weight, and their bits rise: the highest one counts.
            weight = list(from_weight)[won.bit_length() - 1]
            found[number] = Happening(kind, place, weight)
