"""The judge: right books and cuts, lines changed, left out, doubled, moved, things that are none (points 40, 41)."""

import copy
import random
import unittest

import helper
from bellsaway.errors import NoRoad, NoTime
from bellsaway.house import House
from bellsaway.judging import judge
from bellsaway.roads import Road

ROADS = [Road("pager"), Road("mail", 30, True)]
WISH = ("wish", 0, "ann", "zone 0 ; kind fire : now by 2 pager mail raise 10 1 bob ; any : hour 5 by 1 mail")
RIGHT = [
    WISH, ("happen", 1, "fire", "hall", 0), ("try", 1, "ann", "bell", "pager", ((0, 0),)), ("end", 1, "not"),
    ("try", 1, "ann", "bell", "mail", ((0, 0),)), ("end", 1, "took"), ("happen", 2, "flood", "hall", 0),
    ("happen", 2, "flood", "yard", 1), ("try", 5, "ann", "bell", "mail", ((1, 0), (2, 0))), ("end", 5, "perhaps"),
    ("go", 14), ("try", 15, "ann", "bell", "mail", ((1, 0), (2, 0))), ("end", 15, "took"), ("back", 15, 1),
    ("try", 15, "ann", "off", "mail", ((1, 1),)), ("end", 15, "took"), ("take", 16, "ann", 0), ("later", 16, "ann", 2, 17),
    ("try", 17, "ann", "bell", "mail", ((2, 1),)), ("end", 17, "took"),
]


def books(seeds, counts):
    for seed in seeds:
        chance = random.Random(seed)
        scene = helper.Scene(chance, chance.choice(counts))
        house = House(scene.made_roads(), scene.pause, scene.answer)
        for row in scene.rows:
            house.put(row)
        yield seed, chance, scene, house.book()


def changed_parts(part):
    """Things near a part of a line, none of which is it."""
    if type(part) is int:
        near = [part - 1, part + 1, -part, 0, 1, bool(part), str(part), None, (part,), [part], part + 1440]
    elif type(part) is str:
        near = [part + "x", part[:-1], part.upper(), "", "ann", "bob", "mail", "pager", "bell", "off", "took", "not",
                "perhaps", "try", "end", "go", "back", None, 0, [part], (part,), "fire", "hall"]
    else:
        near = [list(part), (), part + part, part[::-1], tuple(map(list, part)), part[:-1], part + ((99, 0),), None, 0]
        near += [tuple((number, rounds + 1) for number, rounds in part), tuple((number + 1, rounds) for number, rounds in part)]
        near += [tuple((number, bool(rounds)) for number, rounds in part), part[0], [part], repr(part)]
        near += [tuple(stamp + (0,) for stamp in part), tuple(stamp[:1] for stamp in part)]
    return [thing for thing in near if repr(thing) != repr(part)]


def changed_lines(line):
    lines = [line[:place] + (thing,) + line[place + 1:] for place in range(len(line)) for thing in changed_parts(line[place])]
    # Whether another text that begins as wishes do is one of wishes is asked elsewhere.
    lines = [other for other in lines if other[0] != "wish" or other[3] == line[3] or not str(other[3]).startswith("zone ")]
    lines += [list(line), line[:-1], line + (0,), line + line, (line,), (), None, repr(line), 7, dict(enumerate(line))]
    return [thing for thing in lines if repr(thing) != repr(line)]


class Alike:
    """Told to be equal to all things."""

    def __eq__(self, other):
        return True

    def __hash__(self):
        return hash("go")


class Refused(helper.Case):
    def test_roads_then_the_pause(self):
        for bad in ([], (), [ROADS[0], ROADS[0]], ["mail"], tuple(ROADS)) + helper.THINGS:
            for pause in (1, 0, None):
                for lines in ([], RIGHT, 7):
                    self.assertIsNone(self.assert_refused(NoRoad, judge, bad, pause, lines).road)
        for bad in helper.bad_wholes(1):
            for lines in ([], RIGHT, 7):
                self.assert_refused(NoTime, judge, ROADS, bad, lines)


class WrittenOut(helper.Case):
    def test_right_and_each_cut(self):
        for count in range(len(RIGHT) + 1):
            self.assertIsNone(judge(ROADS, 10, RIGHT[:count]))

    def test_nothing_is_changed(self):
        roads = list(ROADS)
        lines = copy.deepcopy(RIGHT)
        before = helper.taken_apart((roads, lines))
        judge(roads, 10, lines)
        self.assertEqual(helper.taken_apart((roads, lines)), before)

    def test_what_is_no_list(self):
        for thing in helper.THINGS + (tuple(RIGHT), iter(RIGHT), dict(enumerate(RIGHT)), "go 5"):
            if type(thing) is not list:
                told = judge(ROADS, 10, thing)
                self.assertEqual((told, type(told)), (0, int))

    def test_lists_of_what_is_no_line(self):
        for thing in helper.THINGS + ([WISH], (WISH,), list(WISH), "go 5", ("go",), ("go", 5, 5)):
            self.assertEqual(judge(ROADS, 10, [thing]), 0)
            for count in range(len(RIGHT) + 1):
                self.assertEqual(judge(ROADS, 10, RIGHT[:count] + [thing] + RIGHT[count:]), count)
            self.assertEqual(judge(ROADS, 10, [("go", 5), ("go", 5), thing, thing]), 2)

    def test_by_other_roads_or_another_pause(self):
        self.assertEqual(judge(ROADS[:1], 10, RIGHT), 0)
        self.assertEqual(judge(ROADS[::-1], 10, RIGHT), None)
        self.assertEqual(judge(ROADS, 11, RIGHT), 11)
        self.assertEqual(judge(ROADS, 9, RIGHT), 10)
        self.assertEqual(judge([Road("pager"), Road("mail", 30)], 10, RIGHT), 11)
        self.assertEqual(judge([Road("pager", 5), Road("mail", 30, True)], 10, RIGHT), None)

    def test_true_is_not_taken_for_one_nor_a_list_for_a_tuple(self):
        for number, line in (
            (1, ("happen", True, "fire", "hall", 0)), (1, ("happen", 1, "fire", "hall", False)), (2, ("try", True) + RIGHT[2][2:]),
            (2, RIGHT[2][:5] + (((0, False),),)), (2, RIGHT[2][:5] + (((False, 0),),)), (2, RIGHT[2][:5] + ([(0, 0)],)),
            (2, RIGHT[2][:5] + (([0, 0],),)), (3, ("end", True, "not")), (13, ("back", 15, True)), (2, list(RIGHT[2])),
            (0, list(RIGHT[0])), (5, ["end", 1, "took"]), (16, ("take", 16, "ann", False)),
        ):
            self.assertEqual(judge(ROADS, 10, RIGHT[:number] + [line] + RIGHT[number + 1:]), number)

    def test_what_is_equal_to_all_things_is_taken_for_none_of_them(self):
        for number, line in enumerate(RIGHT):
            for place in range(len(line)):
                bad = line[:place] + (Alike(),) + line[place + 1:]
                self.assertEqual(judge(ROADS, 10, RIGHT[:number] + [bad]), number)
            self.assertEqual(judge(ROADS, 10, RIGHT[:number] + [Alike()]), number)
        self.assertEqual(judge(ROADS, 10, RIGHT[:2] + [RIGHT[2][:5] + ((Alike(),),)]), 2)
        self.assertEqual(judge(ROADS, 10, RIGHT[:2] + [RIGHT[2][:5] + (((0, Alike()),),)]), 2)
        self.assertEqual(judge(ROADS, 10, Alike()), 0)

    def test_each_end_is_right(self):
        for what in ("took", "not", "perhaps"):
            self.assertIsNone(judge(ROADS, 10, RIGHT[:3] + [("end", 1, what)]))
        for bad in ("", "Took", "fall", "yes", None, True, 1):
            self.assertEqual(judge(ROADS, 10, RIGHT[:3] + [("end", 1, bad)]), 3)

    def test_a_letter_that_is_not_ended(self):
        for bad in (("go", 5), ("go", 1), ("end", 1, "not"), ("try", 1, "ann", "bell", "pager", ((0, 0),)),
                    ("try", 2, "ann", "bell", "mail", ((0, 0),))):
            self.assertEqual(judge(ROADS, 10, RIGHT[:4] + [bad]), 4)
            self.assertEqual(judge(ROADS, 10, RIGHT[:4] + [bad] + RIGHT[4:]), 4)

    def test_a_row_ahead_of_what_is_due(self):
        self.assertEqual(judge(ROADS, 10, RIGHT[:8] + [("go", 4), ("go", 5)]), 9)
        self.assertEqual(judge(ROADS, 10, RIGHT[:2] + [("go", 1)]), 2)
        # The bell of 0 is to be raised at 41.
        self.assertEqual(judge(ROADS, 10, RIGHT[:6] + [("go", 40), ("go", 41)]), 7)
        self.assertIsNone(judge(ROADS, 10, RIGHT[:6] + [("take", 40, "ann", 0), ("go", 41)]))

    def test_a_try_however_late(self):
        far = RIGHT[:1] + [("happen", -5 + 60 * 10 ** 11, "flood", "hall", 0)]
        self.assertIsNone(judge(ROADS, 10, far + [("try", 60 * 10 ** 11 + 5, "ann", "bell", "mail", ((0, 0),))]))
        late = RIGHT[:2]
        moment = 1
        for refusals in range(60):
            for road in ("pager", "mail"):
                late = late + [("try", moment, "ann", "bell", road, ((0, 0),)), ("end", moment, "not")]
            moment += 10 * 2 ** refusals
        self.assertIsNone(judge(ROADS, 10, late))
        self.assertEqual(judge(ROADS, 10, late[:-2] + [("try",) + (late[-2][1] + 1,) + late[-2][2:]]), len(late) - 2)

    def test_no_try_where_nothing_goes_out(self):
        self.assertEqual(judge(ROADS, 10, [WISH, ("try", 5, "ann", "bell", "mail", ((0, 0),))]), 1)
        self.assertEqual(judge(ROADS, 10, [("try", 5, "ann", "bell", "mail", ((0, 0),))]), 0)
        self.assertEqual(judge(ROADS, 10, [("end", 5, "took")]), 0)
        # Behind the last raising of bells that aren't taken nothing goes out any more.
        quiet = RIGHT[:6] + [("try", 41, "ann", "bell", "pager", ((0, 1),)), ("end", 41, "took")]
        self.assertEqual(judge(ROADS, 10, quiet + [("try", 51, "ann", "bell", "pager", ((0, 2),))]), 8)
        self.assertIsNone(judge(ROADS, 10, quiet + [("go", 10 ** 13)]))


class Random(helper.Case):
    def test_right_books_and_each_cut(self):
        for seed, chance, scene, book in books(range(800, 820), (10, 30)):
            roads = scene.made_roads()
            for count in range(len(book) + 1):
                self.assertIsNone(judge(roads, scene.pause, book[:count]), (seed, count))

    def test_each_line_changed(self):
        right = wrong = 0
        for seed, chance, scene, book in books(range(830, 834), (10, 16)):
            roads = scene.made_roads()
            plain = scene.plain()
            for number, line in enumerate(book):
                for bad in changed_lines(line):
                    follows = copy.deepcopy(plain).follow(bad) if type(bad) is tuple else False
                    told = judge(roads, scene.pause, book[:number] + [bad])
                    self.assertEqual(told, None if follows else number, (seed, number, bad))
                    right += follows
                    wrong += not follows
                self.assertTrue(plain.follow(line))
        self.assertGreater(min(right, wrong), 200)

    def assert_as_reckoned(self, scene, lines):
        told = helper.plain_judge(scene.roads, scene.pause, scene.texts, lines)
        self.assertEqual(judge(scene.made_roads(), scene.pause, lines), told)
        return told

    def test_lines_left_out_doubled_put_elsewhere_or_changed(self):
        told = set()
        for seed, chance, scene, book in books(range(850, 857), (10, 25)):
            for number, line in enumerate(book):
                place = chance.randrange(len(book))
                left = book[:number] + book[number + 1:]
                for lines in (left, book[:number + 1] + book[number:], left[:place] + [line] + left[place:]):
                    told.add(self.assert_as_reckoned(scene, lines) is None)
                bad = chance.choice(changed_lines(line))
                if type(bad) is tuple:
                    told.add(self.assert_as_reckoned(scene, book[:number] + [bad] + book[number + 1:]) is None)
        self.assertEqual(told, {True, False})

    def test_rows_between(self):
        for seed, chance, scene, book in books(range(880, 895), (10, 25)):
            for number in range(len(book) + 1):
                moment = book[min(number, len(book) - 1)][1] + chance.choice((-1, 0, 0, 1, 60))
                row = chance.choice((("go", moment), ("happen", moment, "fire", "hall", 0), ("take", moment, "ann", 0),
                                     ("later", moment, "bob", 0, moment + 5), ("back", moment, 0)))
                self.assert_as_reckoned(scene, book[:number] + [row] + book[number:])

    def test_books_of_other_roads_or_pauses(self):
        for seed, chance, scene, book in books(range(900, 930), (10, 25)):
            scene.pause += 1
            self.assert_as_reckoned(scene, book)
            scene.roads = [(name, slow + chance.choice((0, 1)), knows != (chance.random() < 0.3))
                           for name, slow, knows in scene.roads]
            self.assert_as_reckoned(scene, book)


if __name__ == "__main__":
    unittest.main()
