"""What several tests share: things of many kinds, refusals, fields; fits, lines and wishes by a plain reckoning.

A shape is a fit as plain tuples: ("any",), ("kind", names), ("place", names), ("least", weight), ("not", shape),
("both", shapes), ("either", shapes).
"""

import unittest

from bellsaway import errors, fits
from bellsaway.ways import Day, Hour, Never, Now
from bellsaway.wishes import Line, Raised, Wishes

THINGS = (
    True, False, None, "", " ", "fire", "Fire", "a b", "abcdefghi", "fire\n", "1", "any", 0, 1, -1, 7, 10 ** 13,
    -(10 ** 13), (), (1,), ("fire",), ("fire", "flood"), [], ["fire"], ["fire", "flood"], [1], [None], [[]],
    {}, {"fire": True}, object(), int, str, list, len, fits.Any, fits.Fit, errors.NoFit,
)
REFUSALS = (
    errors.NoClock, errors.NoHappening, errors.NoFit, errors.NoWish, errors.NoRoad, errors.NoTime, errors.NoRow,
    errors.Backward, errors.NoNumber, errors.Fallen, errors.NoBook, errors.NoText,
)
WORDS = (
    "any", "kind", "place", "weight", "not", "by", "sure", "raise", "zone", "quiet", "now", "hour", "day", "never",
    "a", "abcdefgh",
)
NUMBERS = (0, 1, 9, 10, 11, 100, 999999, 10 ** 59, 10 ** 60 - 1)
LETTERS = "abcdefghijklmnopqrstuvwxyz"
NO_NAMES = (
    "", " ", "A", "Fire", "firE", "fire1", "1", "a b", " a", "a ", "a\n", "\n", "a-b", "a_b", "a.b", "{", "`", "@",
    "abcdefghi", "abcdefgh ", "a" * 1000,
)


def is_plain_name(thing):
    return type(thing) is str and 1 <= len(thing) <= 8 and set(thing) <= set(LETTERS)


def is_plain_whole(thing, least):
    return type(thing) is int and thing >= least


def bad_names():
    return NO_NAMES + tuple(thing for thing in THINGS if not is_plain_name(thing))


def bad_wholes(least):
    return (least - 1, least - 2) + tuple(thing for thing in THINGS if not is_plain_whole(thing, least))


def bad_name_lists():
    """Things that are no list of unlike names; the list without a name is not among them."""
    lists = [["fire", "fire"], ["a", "b", "a"], ["a", ["b"]], ["a", None], [True], [("a",)], [{}], ["a", "b", "B"]]
    lists += [["a", bad] for bad in NO_NAMES] + [[bad, "a"] for bad in NO_NAMES]
    return tuple(lists) + tuple(thing for thing in THINGS if thing not in ([], ["fire"], ["fire", "flood"]))


class Case(unittest.TestCase):
    def assert_refused(self, refusal, function, *arguments):
        with self.subTest(function=function.__name__, arguments=arguments):
            with self.assertRaises(errors.BellError) as taken:
                function(*arguments)
            self.assertIs(type(taken.exception), refusal)
            self.assertEqual([other for other in REFUSALS if isinstance(taken.exception, other)], [refusal])
            return taken.exception

    def assert_fields(self, thing, names, told):
        self.assertEqual(list(vars(thing)), list(names))
        self.assertEqual(list(vars(thing).values()), list(told))
        self.assertEqual([type(value) for value in vars(thing).values()], [type(value) for value in told])


def made(shape):
    word = shape[0]
    if word == "any":
        return fits.Any()
    if word == "kind":
        return fits.Kind(list(shape[1]))
    if word == "place":
        return fits.Place(list(shape[1]))
    if word == "least":
        return fits.Least(shape[1])
    if word == "not":
        return fits.Not(made(shape[1]))
    inner = [made(part) for part in shape[1]]
    return fits.Both(inner) if word == "both" else fits.Either(inner)


CLASSES = {
    "Any": ("any", None), "Kind": ("kind", "names"), "Place": ("place", "names"), "Least": ("least", "weight"),
    "Not": ("not", "fit"), "Both": ("both", "fits"), "Either": ("either", "fits"),
}


def shape_of(fit):
    """The shape of a fit, by its class and its fields alone; fails where it has others."""
    word, field = CLASSES[type(fit).__name__]
    assert type(fit) is getattr(fits, type(fit).__name__)
    if field is None:
        assert vars(fit) == {}
        return (word,)
    assert list(vars(fit)) == [field]
    value = vars(fit)[field]
    if field == "names":
        assert type(value) is list
        return (word, tuple(value))
    if field == "weight":
        assert type(value) is int
        return (word, value)
    if field == "fit":
        return (word, shape_of(value))
    assert type(value) is list
    return (word, tuple(shape_of(part) for part in value))


def fits_plainly(shape, kind, place, weight):
    word = shape[0]
    if word == "any":
        return True
    if word == "kind":
        return kind in shape[1]
    if word == "place":
        return place in shape[1]
    if word == "least":
        return not weight < shape[1]
    if word == "not":
        return fits_plainly(shape[1], kind, place, weight) is False
    told = {fits_plainly(part, kind, place, weight) for part in shape[1]}
    return told == {True} if word == "both" else True in told


def leaves(shape):
    if shape[0] == "not":
        return leaves(shape[1])
    if shape[0] in ("both", "either"):
        return [leaf for part in shape[1] for leaf in leaves(part)]
    return [shape]


def all_cells(shapes):
    """Kinds, places and weights at which one of the shapes turns, and such beside them."""
    found = [leaf for shape in shapes for leaf in leaves(shape)]
    kinds = sorted({name for leaf in found if leaf[0] == "kind" for name in leaf[1]}) + ["qqqqq", "zzzzzzzz"]
    places = sorted({name for leaf in found if leaf[0] == "place" for name in leaf[1]}) + ["qqqqq", "zzzzzzzz"]
    named = {leaf[1] for leaf in found if leaf[0] == "least"}
    weights = {0, 1, 10 ** 6} | {weight + by for weight in named for by in (-1, 0, 1)}
    weights = sorted(weight for weight in weights if weight >= 0)
    return [(kind, place, weight) for kind in kinds for place in places for weight in weights]


def any_shape(chance, deep, names=("a", "b", "fire"), weights=(0, 1, 2, 5)):
    word = chance.choice(("any", "kind", "place", "least", "not", "both", "either", "both", "either"))
    if deep == 0:
        word = chance.choice(("any", "kind", "place", "least", "kind", "place", "least"))
    if word == "any":
        return (word,)
    if word in ("kind", "place"):
        return (word, tuple(chance.sample(names, chance.randint(1, len(names)))))
    if word == "least":
        return (word, chance.choice(weights))
    if word == "not":
        return (word, any_shape(chance, deep - 1, names, weights))
    parts = chance.choice((2, 2, 3))
    return (word, tuple(any_shape(chance, deep - 1, names, weights) for part in range(parts)))


def taken_apart(thing):
    """Classes and fields all the way down, to lay one thing beside another."""
    if type(thing).__module__.startswith("bellsaway."):
        return (type(thing), [(name, taken_apart(value)) for name, value in vars(thing).items()])
    if type(thing) in (list, tuple):
        return (type(thing), [taken_apart(part) for part in thing])
    return (type(thing), thing)


def text_of(shape):
    word = shape[0]
    if word in ("kind", "place"):
        return "{} {}".format(word, " ".join(shape[1]))
    if word == "least":
        return "weight {}".format(shape[1])
    if word == "not":
        return "not {}".format(text_of(shape[1]))
    if word in ("both", "either"):
        sign = {"both": " & ", "either": " | "}[word]
        return "( {} )".format(sign.join(text_of(part) for part in shape[1]))
    return "any"


def any_way(chance):
    return chance.choice((("now",), ("hour", chance.choice((0, 5, 59))), ("day", chance.choice((0, 480, 1439)))))


def any_line(chance):
    """A line as plain parts: shape, way, roads, sure, raised."""
    shape = any_shape(chance, chance.randint(0, 3), WORDS[:5], NUMBERS)
    if chance.random() < 0.2:
        return (shape, ("never",), [], False, None)
    raised = (chance.choice(NUMBERS[1:]), chance.choice(NUMBERS), chance.choice(WORDS + (None, None)))
    roads = chance.sample(WORDS, chance.randint(1, 8))
    return (shape, any_way(chance), roads, chance.random() < 0.5, chance.choice((raised, None)))


def any_wishes(chance):
    """Wishes as plain parts: zone, quiet hours, wake, lines."""
    quiet = chance.choice((None, (0, 1439), (1439, 0), (1320, 420)))
    wake = None if quiet is None else chance.choice((None,) + NUMBERS)
    zone = chance.choice((-1439, -60, -1, 0, 1, 330, 1439))
    return (zone, quiet, wake, [any_line(chance) for number in range(chance.choice((0, 1, 2, 5)))])


def made_way(way):
    return {"now": Now, "hour": Hour, "day": Day, "never": Never}[way[0]](*way[1:])


def made_line(parts):
    shape, way, roads, sure, raised = parts
    return Line(made(shape), made_way(way), list(roads), sure, None if raised is None else Raised(*raised))


def made_wishes(parts):
    return Wishes(parts[0], parts[1], parts[2], [made_line(line) for line in parts[3]])


def line_text(parts):
    shape, way, roads, sure, raised = parts
    text = "{} : {}".format(text_of(shape), " ".join(map(str, way)))
    if roads:
        text += " by {} {}".format(len(roads), " ".join(roads))
    if sure:
        text += " sure"
    if raised:
        text += " raise " + " ".join(str(part) for part in raised if part is not None)
    return text


def wishes_text(parts):
    zone, quiet, wake, lines = parts
    text = "zone {}".format(zone)
    if quiet:
        text += " ; quiet {} {}".format(*quiet)
    if wake is not None:
        text += " {}".format(wake)
    return text + "".join(" ; " + line_text(line) for line in lines)
