"""A hand's wishes: its clock, and lines that tell of what it wishes to be told, when and by which roads."""

from bellsaway.clocks import check_quiet, check_zone
from bellsaway.errors import NoWish
from bellsaway.fits import Fit, firsts
from bellsaway.happenings import is_name
from bellsaway.ways import Never, Way
from bellsaway.wholes import is_whole_from
from bellsaway.words import are_unlike_names


class Raised:
    def __init__(self, minutes, times, to=None):
        if not is_whole_from(minutes, 1):
            raise NoWish("the minutes of a raising are a whole number from 1 on")
        if not is_whole_from(times, 0):
            raise NoWish("the times of a raising are a whole number from 0 on")
        if to is not None and not is_name(to):
            raise NoWish("the hand that is led on to is a name, or None")
        self.minutes = minutes
        self.times = times
        self.to = to


class Line:
    def __init__(self, fit, way, roads, sure=False, raised=None):
        if not isinstance(fit, Fit):
            raise NoWish("the fit of a line is a fit")
        if not isinstance(way, Way):
            raise NoWish("the way of a line is a way")
        if not are_unlike_names(roads):
            raise NoWish("the roads of a line are a list of unlike names")
        if not isinstance(sure, bool):
            raise NoWish("sure is True or False")
        if raised is not None and not isinstance(raised, Raised):
            raise NoWish("raised is a Raised or None")
        check_by_way(way, roads, sure, raised)
        self.fit = fit
        self.way = way
        self.roads = list(roads)
        self.sure = sure
        self.raised = raised


def check_by_way(way, roads, sure, raised):
    if not isinstance(way, Never):
        if len(roads) == 0:
            raise NoWish("a line has one road at least, but for never")
    elif len(roads) > 0 or sure or raised is not None:
        raise NoWish("a line for never has no roads, is not sure and not raised")


class Wishes:
    def __init__(self, zone=0, quiet=None, wake=None, lines=None):
        check_zone(zone)
        check_quiet(quiet)
        check_wake(wake, quiet)
        check_lines(lines)
        self.zone = zone
        self.quiet = quiet
        self.wake = wake
        self.lines = [] if lines is None else list(lines)

    def winning(self, happening):
        for line in self.lines:
            if line.fit.fits_it(happening):
                return line
        return None

    def line_for(self, happening):
        line = self.winning(happening)
        if line is None or isinstance(line.way, Never):
            return None
        return line

    def winner(self, number):
        if number < 0 or number >= len(self.lines):
            return None
        return firsts([line.fit for line in self.lines[:number + 1]])[number]

    def idle(self):
        won = firsts([line.fit for line in self.lines])
        return [number for number, happening in enumerate(won) if happening is None]


def check_wake(wake, quiet):
    if wake is None:
        return
    if quiet is None or not is_whole_from(wake, 0):
        raise NoWish("wake is a whole number from 0 on where there are quiet hours, or None")


def check_lines(lines):
    if lines is None:
        return
    if not isinstance(lines, list) or not all([isinstance(line, Line) for line in lines]):
        raise NoWish("the lines of wishes are a list of lines, or None")
