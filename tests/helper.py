"""What several tests share: things of many kinds, refusals, fields; fits, lines and wishes by a plain reckoning.

A shape is a fit as plain tuples: ("any",), ("kind", names), ("place", names), ("least", weight), ("not", shape),
("both", shapes), ("either", shapes).
"""

import copy
import random
import types
import unittest

from bellsaway import errors, fits
from bellsaway.roads import Road
from bellsaway.ways import Day, Hour, Never, Now
from bellsaway.wishes import Line, Raised, Wishes

THINGS = (
    True, False, None, "", " ", "fire", "Fire", "a b", "abcdefghi", "fire\n", "1", "any", 0, 1, -1, 7, 10 ** 13,
    -(10 ** 13), (), (1,), ("fire",), ("fire", "flood"), [], ["fire"], ["fire", "flood"], [1], [None], [[]],
    {}, {"fire": True}, object(), int, str, list, len, fits.Any, fits.Fit, errors.NoFit,
)
REFUSALS = (
    errors.NoClock, errors.NoHappening, errors.NoFit, errors.NoWish, errors.NoRoad, errors.NoTime, errors.NoRow,
    errors.Backward, errors.NoNumber, errors.Fallen, errors.NoBook, errors.NoText,
)
WORDS = (
    "any", "kind", "place", "weight", "not", "by", "sure", "raise", "zone", "quiet", "now", "hour", "day", "never",
    "a", "abcdefgh",
)
NUMBERS = (0, 1, 9, 10, 11, 100, 999999, 10 ** 59, 10 ** 60 - 1)
LETTERS = "abcdefghijklmnopqrstuvwxyz"
NO_NAMES = (
    "", " ", "A", "Fire", "firE", "fire1", "1", "a b", " a", "a ", "a\n", "\n", "a-b", "a_b", "a.b", "{", "`", "@",
    "abcdefghi", "abcdefgh ", "a" * 1000,
)


def is_plain_name(thing):
    return type(thing) is str and 1 <= len(thing) <= 8 and set(thing) <= set(LETTERS)


def is_plain_whole(thing, least):
    return type(thing) is int and thing >= least


def bad_names():
    return NO_NAMES + tuple(thing for thing in THINGS if not is_plain_name(thing))


def bad_wholes(least):
    return (least - 1, least - 2) + tuple(thing for thing in THINGS if not is_plain_whole(thing, least))


def bad_name_lists():
    """Things that are no list of unlike names; the list without a name is not among them."""
    lists = [["fire", "fire"], ["a", "b", "a"], ["a", ["b"]], ["a", None], [True], [("a",)], [{}], ["a", "b", "B"]]
    lists += [["a", bad] for bad in NO_NAMES] + [[bad, "a"] for bad in NO_NAMES]
    return tuple(lists) + tuple(thing for thing in THINGS if thing not in ([], ["fire"], ["fire", "flood"]))


class Case(unittest.TestCase):
    def assert_refused(self, refusal, function, *arguments):
        with self.subTest(function=function.__name__, arguments=arguments):
            with self.assertRaises(errors.BellError) as taken:
                function(*arguments)
            self.assertIs(type(taken.exception), refusal)
            self.assertEqual([other for other in REFUSALS if isinstance(taken.exception, other)], [refusal])
            return taken.exception

    def assert_fields(self, thing, names, told):
        self.assertEqual(list(vars(thing)), list(names))
        self.assertEqual(list(vars(thing).values()), list(told))
        self.assertEqual([type(value) for value in vars(thing).values()], [type(value) for value in told])


def made(shape):
    word = shape[0]
    if word == "any":
        return fits.Any()
    if word == "kind":
        return fits.Kind(list(shape[1]))
    if word == "place":
        return fits.Place(list(shape[1]))
    if word == "least":
        return fits.Least(shape[1])
    if word == "not":
        return fits.Not(made(shape[1]))
    inner = [made(part) for part in shape[1]]
    return fits.Both(inner) if word == "both" else fits.Either(inner)


CLASSES = {
    "Any": ("any", None), "Kind": ("kind", "names"), "Place": ("place", "names"), "Least": ("least", "weight"),
    "Not": ("not", "fit"), "Both": ("both", "fits"), "Either": ("either", "fits"),
}


def shape_of(fit):
    """The shape of a fit, by its class and its fields alone; fails where it has others."""
    word, field = CLASSES[type(fit).__name__]
    assert type(fit) is getattr(fits, type(fit).__name__)
    if field is None:
        assert vars(fit) == {}
        return (word,)
    assert list(vars(fit)) == [field]
    value = vars(fit)[field]
    if field == "names":
        assert type(value) is list
        return (word, tuple(value))
    if field == "weight":
        assert type(value) is int
        return (word, value)
    if field == "fit":
        return (word, shape_of(value))
    assert type(value) is list
    return (word, tuple(shape_of(part) for part in value))


def fits_plainly(shape, kind, place, weight):
    word = shape[0]
    if word == "any":
        return True
    if word == "kind":
        return kind in shape[1]
    if word == "place":
        return place in shape[1]
    if word == "least":
        return not weight < shape[1]
    if word == "not":
        return fits_plainly(shape[1], kind, place, weight) is False
    told = {fits_plainly(part, kind, place, weight) for part in shape[1]}
    return told == {True} if word == "both" else True in told


def leaves(shape):
    if shape[0] == "not":
        return leaves(shape[1])
    if shape[0] in ("both", "either"):
        return [leaf for part in shape[1] for leaf in leaves(part)]
    return [shape]


def all_cells(shapes):
    """Kinds, places and weights at which one of the shapes turns, and such beside them."""
    found = [leaf for shape in shapes for leaf in leaves(shape)]
    kinds = sorted({name for leaf in found if leaf[0] == "kind" for name in leaf[1]}) + ["qqqqq", "zzzzzzzz"]
    places = sorted({name for leaf in found if leaf[0] == "place" for name in leaf[1]}) + ["qqqqq", "zzzzzzzz"]
    named = {leaf[1] for leaf in found if leaf[0] == "least"}
    weights = {0, 1, 10 ** 6} | {weight + by for weight in named for by in (-1, 0, 1)}
    weights = sorted(weight for weight in weights if weight >= 0)
    return [(kind, place, weight) for kind in kinds for place in places for weight in weights]


def any_shape(chance, deep, names=("a", "b", "fire"), weights=(0, 1, 2, 5)):
    word = chance.choice(("any", "kind", "place", "least", "not", "both", "either", "both", "either"))
    if deep == 0:
        word = chance.choice(("any", "kind", "place", "least", "kind", "place", "least"))
    if word == "any":
        return (word,)
    if word in ("kind", "place"):
        return (word, tuple(chance.sample(names, chance.randint(1, len(names)))))
    if word == "least":
        return (word, chance.choice(weights))
    if word == "not":
        return (word, any_shape(chance, deep - 1, names, weights))
    parts = chance.choice((2, 2, 3))
    return (word, tuple(any_shape(chance, deep - 1, names, weights) for part in range(parts)))


def taken_apart(thing):
    """Classes and fields all the way down, to lay one thing beside another."""
    if type(thing).__module__.startswith("bellsaway."):
        return (type(thing), [(name, taken_apart(value)) for name, value in vars(thing).items()])
    if type(thing) in (list, tuple):
        return (type(thing), [taken_apart(part) for part in thing])
    return (type(thing), thing)


def text_of(shape):
    word = shape[0]
    if word in ("kind", "place"):
        return "{} {}".format(word, " ".join(shape[1]))
    if word == "least":
        return "weight {}".format(shape[1])
    if word == "not":
        return "not {}".format(text_of(shape[1]))
    if word in ("both", "either"):
        sign = {"both": " & ", "either": " | "}[word]
        return "( {} )".format(sign.join(text_of(part) for part in shape[1]))
    return "any"


def any_way(chance):
    return chance.choice((("now",), ("hour", chance.choice((0, 5, 59))), ("day", chance.choice((0, 480, 1439)))))


def any_line(chance):
    """A line as plain parts: shape, way, roads, sure, raised."""
    shape = any_shape(chance, chance.randint(0, 3), WORDS[:5], NUMBERS)
    if chance.random() < 0.2:
        return (shape, ("never",), [], False, None)
    raised = (chance.choice(NUMBERS[1:]), chance.choice(NUMBERS), chance.choice(WORDS + (None, None)))
    roads = chance.sample(WORDS, chance.randint(1, 8))
    return (shape, any_way(chance), roads, chance.random() < 0.5, chance.choice((raised, None)))


def any_wishes(chance):
    """Wishes as plain parts: zone, quiet hours, wake, lines."""
    quiet = chance.choice((None, (0, 1439), (1439, 0), (1320, 420)))
    wake = None if quiet is None else chance.choice((None,) + NUMBERS)
    zone = chance.choice((-1439, -60, -1, 0, 1, 330, 1439))
    return (zone, quiet, wake, [any_line(chance) for number in range(chance.choice((0, 1, 2, 5)))])


def made_way(way):
    return {"now": Now, "hour": Hour, "day": Day, "never": Never}[way[0]](*way[1:])


def made_line(parts):
    shape, way, roads, sure, raised = parts
    return Line(made(shape), made_way(way), list(roads), sure, None if raised is None else Raised(*raised))


def made_wishes(parts):
    return Wishes(parts[0], parts[1], parts[2], [made_line(line) for line in parts[3]])


def line_text(parts):
    shape, way, roads, sure, raised = parts
    text = "{} : {}".format(text_of(shape), " ".join(map(str, way)))
    if roads:
        text += " by {} {}".format(len(roads), " ".join(roads))
    if sure:
        text += " sure"
    if raised:
        text += " raise " + " ".join(str(part) for part in raised if part is not None)
    return text


def wishes_text(parts):
    zone, quiet, wake, lines = parts
    text = "zone {}".format(zone)
    if quiet:
        text += " ; quiet {} {}".format(*quiet)
    if wake is not None:
        text += " {}".format(wake)
    return text + "".join(" ; " + line_text(line) for line in lines)


# A house by a plain reckoning, minute by minute and bell by bell. Roads are tuples (name, slow, knows), wishes plain
# parts as above, found by their texts; it keeps nothing of what is due but looks at each minute whether a bell rings.

WHATS = {True: "took", False: "not", None: "perhaps"}
LENGTHS = {"wish": 4, "happen": 5, "take": 4, "later": 5, "back": 3, "go": 2}


def plain_usable(wishes, slow, weight, moment):
    zone, quiet, wake, lines = wishes
    if quiet is None or (wake is not None and not weight < wake):
        return True
    start, end = quiet
    minute = (moment + slow + zone) % 1440
    return minute not in range(start, end) if start < end else minute in range(end, start)


def plain_moment(way, zone, moment):
    size = {"now": 1, "hour": 60, "day": 1440}[way[0]]
    while size > 1 and (moment + zone) % size != way[1]:
        moment += 1
    return moment


def plain_line_for(wishes, thing):
    for line in wishes[3]:
        if fits_plainly(line[0], *thing):
            return None if line[1][0] == "never" else line
    return None


def is_plain_row(row):
    if type(row) is not tuple or not row or type(row[0]) is not str or LENGTHS.get(row[0]) != len(row):
        return False
    forms = {"wish": "mh?", "happen": "m???", "take": "mhn", "later": "mhnm", "back": "mn", "go": "m"}[row[0]]
    checks = {
        "m": lambda part: type(part) is int, "n": lambda part: is_plain_whole(part, 0), "h": is_plain_name,
        "?": lambda part: True,
    }
    return all(checks[form](part) for form, part in zip(forms, row[1:]))


class PlainHouse:
    def __init__(self, roads, pause, texts):
        self.roads = {name: (slow, knows) for name, slow, knows in roads}
        self.pause = pause
        self.texts = texts
        self.at = None
        self.wishes = {}
        self.things = []
        self.withdrawn = []
        self.bells = {}
        self.letter = None
        self.book = []

    def usable(self, key, name, moment):
        weight = self.things[key[1]][2] + self.bells[key].raisings
        return plain_usable(self.wishes[key[0]], self.roads[name][0], weight, moment)

    def rings(self, key, moment):
        bell = self.bells[key]
        names = [bell.doubt] if bell.doubt else bell.line[2]
        return any(self.usable(key, name, moment) for name in names)

    def due(self, key):
        bell = self.bells[key]
        if bell.state == "told":
            return bell.again
        if bell.state != "waits":
            return None
        moment = max(bell.ready, self.at)
        while not self.rings(key, moment):
            moment += 1
        return moment

    def ring(self, hand, number):
        line = plain_line_for(self.wishes[hand], self.things[number])
        if line is not None:
            self.bells[hand, number] = types.SimpleNamespace(
                state="waits", word="bell", round=0, raisings=0, refusals=0, doubt=None, surely=0, perhaps=0,
                gathered=line[1][0] != "now", tried=False, again=None, line=line,
                ready=plain_moment(line[1], self.wishes[hand][0], self.at),
            )

    def walk(self, last):
        """Minute by minute up to a letter, or to the last moment; to no end where that is None."""
        while self.letter is None:
            early = {key: bell.ready if bell.state == "waits" else bell.again for key, bell in self.bells.items()
                     if bell.state == "waits" or (bell.state == "told" and bell.again is not None)}
            now = [key for key in early if early[key] <= self.at]
            now = [key for key in now if self.bells[key].state == "told" or self.rings(key, self.at)]
            if now:
                self.stir(min(now))
                continue
            if not early or (last is not None and max(self.at + 1, min(early.values())) > last):
                return
            self.at = max(self.at + 1, min(early.values()))

    def stir(self, key):
        bell = self.bells[key]
        if bell.state == "waits":
            self.open(key)
            return
        minutes, times, to = bell.line[4]
        bell.again = None
        if bell.raisings < times:
            bell.state, bell.ready, bell.gathered = "waits", self.at, False
            bell.raisings += 1
            bell.round += 1
        elif to is not None:
            bell.state = "over"
            if to in self.wishes and (to, key[1]) not in self.bells:
                self.ring(to, key[1])

    def open(self, key):
        first = self.bells[key]
        keys = [key]
        if first.gathered:
            keys = [other for other in sorted(self.bells) if other[0] == key[0] and self.goes_with(other, first)]
        names = first.line[2][first.line[2].index(first.doubt):] if first.doubt else first.line[2]
        names = [name for name in names if all(self.usable(other, name, self.at) for other in keys)]
        self.letter = types.SimpleNamespace(keys=keys, names=names, trying=None)

    def goes_with(self, key, first):
        bell = self.bells[key]
        if not bell.gathered or bell.state != "waits" or bell.ready > self.at or not self.rings(key, self.at):
            return False
        return line_text(bell.line) == line_text(first.line) and bell.doubt == first.doubt

    def attempt(self):
        keys = self.letter.keys
        stamps = tuple((key[1], self.bells[key].round) for key in keys)
        return ("try", self.at, keys[0][0], self.bells[keys[0]].word, self.letter.names[0], stamps)

    def begin(self):
        self.letter.trying = self.letter.names.pop(0)
        for key in self.letter.keys:
            self.bells[key].tried = True

    def end(self, what):
        letter = self.letter
        fates = {self.end_of(self.bells[key], what, letter.trying) for key in letter.keys}
        letter.trying = None
        assert len(fates) == 1
        if fates != {"next"}:
            self.letter = None

    def end_of(self, bell, what, name):
        slow, knows = self.roads[name]
        fate = {"took": "told", "not": "next", "perhaps": "waits" if knows else "next" if bell.line[3] else "told"}[what]
        if what != "perhaps" and bell.doubt == name:
            bell.perhaps -= 1
            bell.doubt = None
        if what == "took":
            bell.surely += 1
        if what == "perhaps" and not (knows and bell.doubt):
            bell.perhaps += 1
        if what == "perhaps" and knows:
            bell.doubt = name
        if fate == "next" and not self.letter.names:
            fate = "waits"
            assert bell.doubt is None
        if fate == "waits":
            bell.refusals += 1
            bell.ready = self.at + self.pause * 2 ** (bell.refusals - 1)
        if fate == "told":
            assert bell.doubt is None
            bell.refusals = 0
            bell.state = "over" if bell.word == "off" else "told"
            bell.again = self.at + slow + bell.line[4][0] if bell.line[4] and bell.word == "bell" else None
        return fate

    def refusal(self, row):
        """The name of the refusal and its field, or None."""
        if not is_plain_row(row):
            return ("NoRow", None)
        if self.at is not None and row[1] < self.at:
            return ("Backward", self.at)
        if row[0] == "wish":
            if type(row[3]) is not str or row[3] not in self.texts:
                return ("NoText", 0)
            unknown = [name for line in self.texts[row[3]][3] for name in line[2] if name not in self.roads]
            return ("NoRoad", unknown[0]) if unknown else None
        if row[0] == "happen":
            good = is_plain_name(row[2]) and is_plain_name(row[3]) and is_plain_whole(row[4], 0)
            return None if good else ("NoHappening", None)
        if row[0] != "go" and not row[2 if row[0] == "back" else 3] < len(self.things):
            return ("NoNumber", None)
        return ("NoTime", None) if row[0] == "later" and not row[4] > row[1] else None

    def do(self, row):
        self.at = row[1]
        if row[0] == "wish":
            self.wishes[row[2]] = self.texts[row[3]]
            for key, bell in self.bells.items():
                if key[0] == row[2] and bell.state == "waits" and bell.gathered and not bell.tried:
                    if bell.ready > self.at:
                        bell.ready = plain_moment(bell.line[1], self.texts[row[3]][0], self.at)
        if row[0] == "happen":
            self.things.append(row[2:])
            for hand in self.wishes:
                self.ring(hand, len(self.things) - 1)
        if row[0] in ("take", "later") and row[2:4] in self.bells:
            self.change(self.bells[row[2:4]], row)
        if row[0] == "back" and row[2] not in self.withdrawn:
            self.withdrawn.append(row[2])
            for key, bell in self.bells.items():
                if key[1] == row[2]:
                    self.change(bell, row)

    def change(self, bell, row):
        if bell.state in ("taken", "over"):
            return
        was_told = bell.state == "told"
        had_doubt = bell.doubt is not None
        bell.again = None
        if row[0] == "take":
            bell.state = "taken"
        elif row[0] == "back" and bell.surely + bell.perhaps == 0:
            bell.state = "over"
        else:
            bell.state, bell.gathered, bell.refusals, bell.doubt = "waits", False, 0, None
            bell.ready = row[-1] if row[0] == "later" else row[1]
            bell.word = "off" if row[0] == "back" else bell.word
            bell.round += 1 if row[0] == "back" or was_told or had_doubt else 0

    def follow(self, line):
        """Whether the line is right behind the book; then it is done and stands in it."""
        if self.letter is not None and self.letter.trying:
            ends = [("end", self.at, what) for what in ("took", "not", "perhaps")]
            if repr(line) not in map(repr, ends):
                return False
            self.end(line[2])
        elif self.letter is None and is_plain_row(line):
            if self.refusal(line) is not None:
                return False
            self.walk(line[1])
            if self.letter is not None:
                return False
            self.do(line)
        else:
            self.walk(None)
            if self.letter is None or repr(line) != repr(self.attempt()):
                return False
            self.begin()
        self.book.append(line)
        return True

    def carried(self, last, answer):
        self.walk(last)
        while self.letter is not None:
            if not self.letter.trying:
                attempt = self.attempt()
                assert self.follow(attempt)
                what = WHATS[answer(attempt[4], attempt[2], attempt[3], attempt[5], attempt[1])]
            else:
                what = "perhaps"
            assert self.follow(("end", self.at, what))
            self.walk(last)

    def put(self, row, answer):
        start = len(self.book)
        self.carried(row[1], answer)
        assert self.follow(row)
        self.carried(row[1], answer)
        return self.book[start:]

    def go_on(self, answer):
        start = len(self.book)
        self.carried(self.at, answer)
        return self.book[start:]

    def account(self, hand, number):
        bell = self.bells.get((hand, number))
        return bell and (bell.state, bell.word, bell.round, bell.raisings, bell.surely, bell.perhaps)

    def waiting(self, hand):
        keys = [key for key in sorted(self.bells) if key[0] == hand and self.bells[key].state == "waits"]
        return [(key[1], self.due(key)) for key in keys]

    def next_due(self):
        return min((self.due(key) for key in self.bells if self.due(key) is not None), default=None)

    def letters(self, hand):
        found = []
        for number, line in enumerate(self.book):
            if line[0] == "end" and line[2] != "not" and self.book[number - 1][2] == hand:
                moment, word, road, stamps = self.book[number - 1][1:2] + self.book[number - 1][3:]
                found.append((moment + self.roads[road][0], word, road, stamps, line[2] == "took"))
        return found

    def plan(self, moment):
        other = copy.deepcopy(self)
        start = len(other.book)
        other.carried(moment, lambda *parts: True)
        return [line[1:] for line in other.book[start:] if line[0] == "try"]


def plain_judge(roads, pause, texts, lines):
    if type(lines) is not list:
        return 0
    house = PlainHouse(roads, pause, texts)
    return next((number for number, line in enumerate(lines) if not house.follow(line)), None)


HANDS = ("ann", "bob", "cy", "dee")


class Scene:
    """Roads, a pause, rows that no house of them refuses, and the wishes' parts by their texts."""

    def __init__(self, chance, count, roads=None):
        self.roads = roads or [(name, chance.choice((0, 0, 1, 7, 60, 500, 1500)), chance.random() < 0.5)
                               for name in ("mail", "pager", "by", "sure")[:chance.randint(1, 4)]]
        self.pause = chance.choice((1, 3, 10, 45))
        self.texts = {}
        self.seed = chance.random()
        self.rows = []
        self.happened = 0
        moment = chance.choice((-3000, -7, 0, 600, 10 ** 12))
        for number in range(count):
            moment += chance.choice((0, 0, 1, 2, 7, 20, 60, 61, 300, 900))
            self.rows.append(self.any_row(chance, moment, number))

    def any_row(self, chance, moment, number):
        word = chance.choice(("wish", "happen", "happen", "happen", "take", "later", "back", "go"))
        if number < 2 or word == "wish":
            parts = self.any_wishes(chance)
            self.texts[wishes_text(parts)] = parts
            return ("wish", moment, chance.choice(HANDS), wishes_text(parts))
        if word == "happen" or (self.happened == 0 and word != "go"):
            self.happened += 1
            return ("happen", moment, chance.choice(("fire", "flood")), chance.choice(("hall", "yard")),
                    chance.choice((0, 1, 2, 5)))
        known = chance.randrange(max(0, self.happened - 4), self.happened) if self.happened else 0
        return {
            "take": ("take", moment, chance.choice(HANDS), known),
            "later": ("later", moment, chance.choice(HANDS), known, moment + chance.choice((1, 5, 60, 700))),
            "back": ("back", moment, known),
            "go": ("go", moment),
        }[word]

    def any_wishes(self, chance):
        quiet = chance.choice((None, None, (1320, 420), (0, 600), (300, 1200), (1, 0)))
        wake = None if quiet is None else chance.choice((None, 0, 2, 3, 6))
        zone = chance.choice((0, 0, -600, -61, 1, 330, 1439))
        return (zone, quiet, wake, [self.any_line(chance) for number in range(chance.choice((1, 1, 2, 3)))])

    def any_line(self, chance):
        shape = chance.choice((("any",), ("any",), ("kind", ("fire",)), ("least", 2), ("not", ("place", ("hall",)))))
        if chance.random() < 0.1:
            return (shape, ("never",), [], False, None)
        way = chance.choice((("now",), ("now",), ("hour", 5), ("hour", 30), ("day", 480)))
        names = [road[0] for road in self.roads]
        roads = chance.sample(names, chance.randint(1, len(names)))
        to = chance.choice((None,) + HANDS + ("none",))
        raised = chance.choice((None, None, (chance.choice((1, 10, 90)), chance.choice((0, 1, 3)), to)))
        return (shape, way, roads, chance.random() < 0.5, raised)

    def answer(self, road, hand, word, stamps, moment):
        """The same for the same try, so that a house that goes on hears what the first one would have heard."""
        chance = random.Random(repr((self.seed, road, hand, word, stamps, moment)))
        return chance.choice((True, True, False, None))

    def made_roads(self):
        return [Road(*road) for road in self.roads]

    def plain(self):
        return PlainHouse(self.roads, self.pause, self.texts)
