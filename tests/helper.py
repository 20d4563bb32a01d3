"""What several tests share: things of many kinds, refusals, fields, and fits by a plain reckoning of their own.

A shape is a fit as plain tuples: ("any",), ("kind", names), ("place", names), ("least", weight), ("not", shape),
("both", shapes), ("either", shapes).
"""

import unittest

from bellsaway import errors, fits

THINGS = (
    True, False, None, "", " ", "fire", "Fire", "a b", "abcdefghi", "fire\n", "1", "any", 0, 1, -1, 7, 10 ** 13,
    -(10 ** 13), (), (1,), ("fire",), ("fire", "flood"), [], ["fire"], ["fire", "flood"], [1], [None], [[]],
    {}, {"fire": True}, object(), int, str, list, len, fits.Any, fits.Fit, errors.NoFit,
)
REFUSALS = (
    errors.NoClock, errors.NoHappening, errors.NoFit, errors.NoWish, errors.NoRoad, errors.NoTime, errors.NoRow,
    errors.Backward, errors.NoNumber, errors.Fallen, errors.NoBook, errors.NoText,
)
LETTERS = "abcdefghijklmnopqrstuvwxyz"
NO_NAMES = (
    "", " ", "A", "Fire", "firE", "fire1", "1", "a b", " a", "a ", "a\n", "\n", "a-b", "a_b", "a.b", "{", "`", "@",
    "abcdefghi", "abcdefgh ", "a" * 1000,
)


def is_plain_name(thing):
    return type(thing) is str and 1 <= len(thing) <= 8 and set(thing) <= set(LETTERS)


def is_plain_whole(thing, least):
    return type(thing) is int and thing >= least


def bad_names():
    return NO_NAMES + tuple(thing for thing in THINGS if not is_plain_name(thing))


def bad_wholes(least):
    return (least - 1, least - 2) + tuple(thing for thing in THINGS if not is_plain_whole(thing, least))


def bad_name_lists():
    """Things that are no list of unlike names; the list without a name is not among them."""
    lists = [["fire", "fire"], ["a", "b", "a"], ["a", ["b"]], ["a", None], [True], [("a",)], [{}], ["a", "b", "B"]]
    lists += [["a", bad] for bad in NO_NAMES] + [[bad, "a"] for bad in NO_NAMES]
    return tuple(lists) + tuple(thing for thing in THINGS if thing not in ([], ["fire"], ["fire", "flood"]))


class Case(unittest.TestCase):
    def assert_refused(self, refusal, function, *arguments):
        with self.subTest(function=function.__name__, arguments=arguments):
            with self.assertRaises(errors.BellError) as taken:
                function(*arguments)
            self.assertIs(type(taken.exception), refusal)
            self.assertEqual([other for other in REFUSALS if isinstance(taken.exception, other)], [refusal])
            return taken.exception

    def assert_fields(self, thing, names, told):
        self.assertEqual(list(vars(thing)), list(names))
        self.assertEqual(list(vars(thing).values()), list(told))
        self.assertEqual([type(value) for value in vars(thing).values()], [type(value) for value in told])


def made(shape):
    word = shape[0]
    if word == "any":
        return fits.Any()
    if word == "kind":
        return fits.Kind(list(shape[1]))
    if word == "place":
        return fits.Place(list(shape[1]))
    if word == "least":
        return fits.Least(shape[1])
    if word == "not":
        return fits.Not(made(shape[1]))
    inner = [made(part) for part in shape[1]]
    return fits.Both(inner) if word == "both" else fits.Either(inner)


CLASSES = {
    "Any": ("any", None), "Kind": ("kind", "names"), "Place": ("place", "names"), "Least": ("least", "weight"),
    "Not": ("not", "fit"), "Both": ("both", "fits"), "Either": ("either", "fits"),
}


def shape_of(fit):
    """The shape of a fit, by its class and its fields alone; fails where it has others."""
    word, field = CLASSES[type(fit).__name__]
    assert type(fit) is getattr(fits, type(fit).__name__)
    if field is None:
        assert vars(fit) == {}
        return (word,)
    assert list(vars(fit)) == [field]
    value = vars(fit)[field]
    if field == "names":
        assert type(value) is list
        return (word, tuple(value))
    if field == "weight":
        assert type(value) is int
        return (word, value)
    if field == "fit":
        return (word, shape_of(value))
    assert type(value) is list
    return (word, tuple(shape_of(part) for part in value))


def fits_plainly(shape, kind, place, weight):
    word = shape[0]
    if word == "any":
        return True
    if word == "kind":
        return kind in shape[1]
    if word == "place":
        return place in shape[1]
    if word == "least":
        return not weight < shape[1]
    if word == "not":
        return fits_plainly(shape[1], kind, place, weight) is False
    told = {fits_plainly(part, kind, place, weight) for part in shape[1]}
    return told == {True} if word == "both" else True in told


def leaves(shape):
    if shape[0] == "not":
        return leaves(shape[1])
    if shape[0] in ("both", "either"):
        return [leaf for part in shape[1] for leaf in leaves(part)]
    return [shape]


def all_cells(shapes):
    """Kinds, places and weights at which one of the shapes turns, and such beside them."""
    found = [leaf for shape in shapes for leaf in leaves(shape)]
    kinds = sorted({name for leaf in found if leaf[0] == "kind" for name in leaf[1]}) + ["qqqqq", "zzzzzzzz"]
    places = sorted({name for leaf in found if leaf[0] == "place" for name in leaf[1]}) + ["qqqqq", "zzzzzzzz"]
    named = {leaf[1] for leaf in found if leaf[0] == "least"}
    weights = {0, 1, 10 ** 6} | {weight + by for weight in named for by in (-1, 0, 1)}
    weights = sorted(weight for weight in weights if weight >= 0)
    return [(kind, place, weight) for kind in kinds for place in places for weight in weights]


def any_shape(chance, deep, names=("a", "b", "fire"), weights=(0, 1, 2, 5)):
    word = chance.choice(("any", "kind", "place", "least", "not", "both", "either", "both", "either"))
    if deep == 0:
        word = chance.choice(("any", "kind", "place", "least", "kind", "place", "least"))
    if word == "any":
        return (word,)
    if word in ("kind", "place"):
        return (word, tuple(chance.sample(names, chance.randint(1, len(names)))))
    if word == "least":
        return (word, chance.choice(weights))
    if word == "not":
        return (word, any_shape(chance, deep - 1, names, weights))
    parts = chance.choice((2, 2, 3))
    return (word, tuple(any_shape(chance, deep - 1, names, weights) for part in range(parts)))
