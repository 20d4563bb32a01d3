"""Fits, lines and wishes as texts, and read again from them."""

from bellsaway.errors import BellError, NoText
from bellsaway.fits import Any, Both, Either, Kind, Least, Not, Place
from bellsaway.happenings import is_name
from bellsaway.ways import Day, Hour, Never, Now
from bellsaway.wishes import Line, Raised, Wishes
from bellsaway.words import Words


def show_fit(fit):
    if isinstance(fit, Kind):
        return " ".join(["kind"] + fit.names)
    if isinstance(fit, Place):
        return " ".join(["place"] + fit.names)
    if isinstance(fit, Least):
        return "weight " + str(fit.weight)
    if isinstance(fit, Not):
        return "not " + show_fit(fit.fit)
    if isinstance(fit, Both):
        return "( " + " & ".join([show_fit(part) for part in fit.fits]) + " )"
    if isinstance(fit, Either):
        return "( " + " | ".join([show_fit(part) for part in fit.fits]) + " )"
    return "any"


def show_way(way):
    if isinstance(way, Hour):
        return "hour " + str(way.minute)
    if isinstance(way, Day):
        return "day " + str(way.minute)
    return "never" if isinstance(way, Never) else "now"


def show_raised(raised):
    words = ["raise", str(raised.minutes), str(raised.times)]
    if raised.to is not None:
        words.append(raised.to)
    return " ".join(words)


def show_line(line):
    words = [show_fit(line.fit), ":", show_way(line.way)]
    if not isinstance(line.way, Never):
        words.extend(["by", str(len(line.roads))] + line.roads)
    if line.sure:
        words.append("sure")
    if line.raised is not None:
        words.append(show_raised(line.raised))
    return " ".join(words)


def show_quiet(quiet, wake):
    words = ["quiet", str(quiet[0]), str(quiet[1])]
    if wake is not None:
        words.append(str(wake))
    return " ".join(words)


def show_wishes(wishes):
    parts = ["zone " + str(wishes.zone)]
    if wishes.quiet is not None:
        parts.append(show_quiet(wishes.quiet, wishes.wake))
    return " ; ".join(parts + [show_line(line) for line in wishes.lines])


def read_fit(text):
    return read_whole(text, fit_from)


def read_line(text):
    return read_whole(text, line_from)


def read_wishes(text):
    return read_whole(text, wishes_from)


def read_whole(text, part_from):
    words = Words(text)
    try:
        found = part_from(words)
    except BellError:
        # What could not be made could not be written either.
        raise NoText() from None
    words.expect_end()
    return found


class Opened:
    # A `not` or a bracket that isn't closed yet; a bracket's sign is `(` up to the first sign within it.
    def __init__(self, sign):
        self.sign = sign
        self.inner = []


def fit_from(words):
    # What is opened is kept in a list, so that no text is too deep to be refused.
    opened = []
    fit = None
    while fit is None:
        fit = closed(plain_fit_from(words, opened), words, opened)
    return fit


def plain_fit_from(words, opened):
    word = words.take()
    while word == "not" or word == "(":
        opened.append(Opened(word))
        word = words.take()
    if word == "any":
        return Any()
    if word == "kind":
        return Kind(words.take_names())
    if word == "place":
        return Place(words.take_names())
    if word == "weight":
        return Least(words.take_number())
    raise NoText()


def closed(fit, words, opened):
    # The fit with all that ends behind it; None where another fit has to come first.
    while len(opened) > 0:
        last = opened[-1]
        last.inner.append(fit)
        if last.sign != "not" and not is_closed_here(last, words):
            return None
        opened.pop()
        fit = fit_of(last)
    return fit


def is_closed_here(bracket, words):
    word = words.take()
    if word == ")":
        return True
    if word not in ("&", "|") or bracket.sign not in ("(", word):
        raise NoText()
    bracket.sign = word
    return False


def fit_of(opened):
    if opened.sign == "not":
        return Not(opened.inner[0])
    if opened.sign == "&":
        return Both(opened.inner)
    if opened.sign == "|":
        return Either(opened.inner)
    raise NoText()


def way_from(words):
    word = words.take()
    if word == "now":
        return Now()
    if word == "hour":
        return Hour(words.take_number())
    if word == "day":
        return Day(words.take_number())
    if word == "never":
        return Never()
    raise NoText()


def raised_from(words):
    minutes = words.take_number()
    times = words.take_number()
    to = words.take() if is_name(words.look()) else None
    return Raised(minutes, times, to)


def line_from(words):
    fit = fit_from(words)
    words.expect(":")
    way = way_from(words)
    if isinstance(way, Never):
        return Line(fit, way, [])
    words.expect("by")
    roads = words.take_some(words.take_number())
    sure = words.takes("sure")
    raised = raised_from(words) if words.takes("raise") else None
    return Line(fit, way, roads, sure, raised)


def wishes_from(words):
    words.expect("zone")
    zone = words.take_number()
    quiet = None
    wake = None
    more = words.takes(";")
    if more and words.takes("quiet"):
        start = words.take_number()
        quiet = (start, words.take_number())
        if not words.is_ended() and words.look() != ";":
            wake = words.take_number()
        more = words.takes(";")
    lines = []
    while more:
        lines.append(line_from(words))
        more = words.takes(";")
    return Wishes(zone, quiet, wake, lines)
