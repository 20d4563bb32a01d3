"""Bells and letters by themselves (points 25, 26, 28 to 34)."""

import itertools
import unittest

import helper
from bellsaway.bells import Bell, Letter
from bellsaway.fits import Any
from bellsaway.roads import Road
from bellsaway.ways import Day, Hour, Now
from bellsaway.wishes import Line, Raised

FIELDS = (
    "hand", "number", "line", "state", "word", "rounds", "raisings", "refusals", "doubt", "surely", "perhaps",
    "gathered", "tried", "ready", "raised_at",
)
NAMES = ["a", "b", "c"]
PLAIN = Road("a", 7)
KNOWING = Road("b", 20, True)


def bell_of(way=None, sure=False, raised=None, number=4, ready=100):
    return Bell("ann", number, Line(Any(), way or Now(), NAMES, sure, raised), ready)


def changes(bell, before):
    return {name: value for name, value in vars(bell).items() if value != before[name]}


class Made(helper.Case):
    def test_at_first(self):
        for way, gathered in ((Now(), False), (Hour(5), True), (Day(480), True)):
            line = Line(Any(), way, NAMES)
            bell = Bell("ann", 4, line, -100)
            told = ("ann", 4, line, "waits", "bell", 0, 0, 0, None, 0, 0, gathered, False, -100, None)
            self.assert_fields(bell, FIELDS, told)
            self.assertEqual(bell.stamp(), (4, 0))
            self.assertEqual(bell.summary(), ("waits", "bell", 0, 0, 0, 0))
            self.assertIs(bell.is_open(), True)

    def test_stamp_and_summary(self):
        bell = bell_of()
        bell.state, bell.word, bell.rounds, bell.raisings, bell.surely, bell.perhaps = "told", "off", 3, 1, 5, 6
        self.assertEqual(bell.stamp(), (4, 3))
        self.assertEqual(bell.summary(), ("told", "off", 3, 1, 5, 6))

    def test_which_are_open(self):
        for state, told in (("waits", True), ("told", True), ("taken", False), ("over", False)):
            bell = bell_of()
            bell.state = state
            self.assertIs(bell.is_open(), told)

    def test_roads(self):
        bell = bell_of()
        for doubt, names, first in ((None, NAMES, NAMES), ("a", NAMES, ["a"]), ("b", ["b", "c"], ["b"]), ("c", ["c"], ["c"])):
            bell.doubt = doubt
            self.assertEqual(bell.road_names(), names)
            self.assertEqual(bell.first_names(), first)
            bell.road_names().clear()
            bell.first_names().clear()
            self.assertEqual(bell.line.roads, NAMES)

    def test_twin(self):
        bell = bell_of(Hour(5))
        for number, name in enumerate(FIELDS[3:]):
            setattr(bell, name, number + 1000)
        other = bell.twin()
        self.assert_fields(other, FIELDS, vars(bell).values())
        self.assertIsNot(other, bell)
        other.tell(5)
        other.rounds += 1
        self.assertEqual((bell.state, bell.rounds), (1000, 1002))


class ReadyAnew(helper.Case):
    def test_gathered_and_not_tried_and_above(self):
        for way in (Now(), Hour(5), Day(480)):
            for tried in (False, True):
                for ready in (-1, 0, 1, 60, 2000):
                    for zone in (-61, 0, 30):
                        bell = bell_of(way, ready=ready)
                        bell.tried = tried
                        bell.reckon_anew(0, zone)
                        anew = way.is_gathered() and not tried and ready > 0
                        self.assertEqual(bell.ready, way.moment_from(0, zone) if anew else ready)

    def test_written_out(self):
        bell = bell_of(Day(480), ready=480)
        bell.reckon_anew(400, 60)
        self.assertEqual(bell.ready, 420)
        bell.reckon_anew(420, 0)
        self.assertEqual(bell.ready, 420)
        bell.reckon_anew(419, -60)
        self.assertEqual(bell.ready, 540)

    def test_put_later_is_not_gathered_any_more(self):
        bell = bell_of(Day(480), ready=480)
        bell.put_later(500)
        bell.reckon_anew(0, 60)
        self.assertEqual(bell.ready, 500)


class Ends(helper.Case):
    def test_what_is_counted(self):
        for what, road, doubt, surely, perhaps, left in (
            ("took", PLAIN, None, 1, 0, None), ("not", PLAIN, None, 0, 0, None), ("perhaps", PLAIN, None, 0, 1, None),
            ("took", KNOWING, None, 1, 0, None), ("not", KNOWING, None, 0, 0, None),
            ("perhaps", KNOWING, None, 0, 1, "b"), ("took", KNOWING, "b", 1, -1, None),
            ("not", KNOWING, "b", 0, -1, None), ("perhaps", KNOWING, "b", 0, 0, "b"),
            ("took", PLAIN, "b", 1, 0, "b"), ("not", PLAIN, "b", 0, 0, "b"), ("perhaps", PLAIN, "b", 0, 1, "b"),
        ):
            bell = bell_of()
            bell.doubt = doubt
            before = dict(vars(bell))
            bell.note_end(what, road)
            told = {"surely": surely, "perhaps": perhaps, "doubt": left}
            self.assertEqual(changes(bell, before), {name: value for name, value in told.items() if value != before[name]})

    def test_a_doubt_counts_once_and_is_taken_away_once(self):
        for last, told in (("took", (1, 0, None)), ("not", (0, 0, None))):
            bell = bell_of()
            for turn in range(4):
                bell.note_end("perhaps", KNOWING)
                self.assertEqual((bell.surely, bell.perhaps, bell.doubt), (0, 1, "b"))
            bell.note_end(last, KNOWING)
            self.assertEqual((bell.surely, bell.perhaps, bell.doubt), told)
            bell.note_end("not", KNOWING)
            self.assertEqual((bell.surely, bell.perhaps, bell.doubt), told)

    def test_pauses_double(self):
        for pause in (1, 3, 45, 999999):
            bell = bell_of()
            for refusals in range(1, 60):
                bell.wait_further(-500, pause)
                self.assertEqual((bell.refusals, bell.ready), (refusals, -500 + pause * 2 ** (refusals - 1)))
            self.assertEqual((bell.state, bell.rounds, bell.raised_at), ("waits", 0, None))

    def test_waiting_further_keeps_it_gathered(self):
        bell = bell_of(Hour(5))
        bell.wait_further(0, 10)
        self.assertIs(bell.gathered, True)

    def test_told(self):
        for raised, again in ((None, None), (Raised(10, 0), 60), (Raised(1, 3, "bob"), 51)):
            bell = bell_of(raised=raised)
            bell.refusals = 3
            bell.tell(50)
            self.assertEqual((bell.state, bell.refusals, bell.raised_at), ("told", 0, again))
            bell = bell_of(raised=raised)
            bell.word = "off"
            bell.refusals = 3
            bell.tell(50)
            self.assertEqual((bell.state, bell.raised_at), ("over", None))


class Changed(helper.Case):
    def each_bell(self):
        for state, doubt, gathered, tried, counts in itertools.product(
            ("waits", "told"), (None, "b"), (True, False), (True, False), ((0, 0), (0, 1), (1, 0), (2, 3)),
        ):
            bell = bell_of(Hour(5), raised=Raised(10, 3))
            bell.state, bell.doubt, bell.gathered, bell.tried = state, doubt, gathered, tried
            bell.surely, bell.perhaps = counts
            bell.rounds, bell.raisings, bell.refusals, bell.raised_at = 5, 2, 7, 200
            yield bell, dict(vars(bell))

    def assert_changed(self, bell, before, told):
        self.assertEqual(vars(bell), dict(before, **told))

    def test_raised(self):
        for bell, before in self.each_bell():
            bell.ring_again(200)
            self.assert_changed(bell, before, {
                "state": "waits", "ready": 200, "raised_at": None, "gathered": False, "refusals": 0, "doubt": None,
                "raisings": 3, "rounds": 6,
            })

    def test_put_later(self):
        for bell, before in self.each_bell():
            bell.put_later(333)
            more = 1 if before["state"] == "told" or before["doubt"] else 0
            self.assert_changed(bell, before, {
                "state": "waits", "ready": 333, "raised_at": None, "gathered": False, "refusals": 0, "doubt": None,
                "rounds": 5 + more,
            })

    def test_taken_back(self):
        for bell, before in self.each_bell():
            bell.take_back(150)
            if before["surely"] == 0 and before["perhaps"] == 0:
                self.assert_changed(bell, before, {"state": "over", "raised_at": None})
            else:
                self.assert_changed(bell, before, {
                    "state": "waits", "word": "off", "ready": 150, "raised_at": None, "gathered": False,
                    "refusals": 0, "doubt": None, "rounds": 6,
                })

    def test_closed(self):
        for bell, before in self.each_bell():
            for state in ("taken", "over"):
                bell.close(state)
                self.assert_changed(bell, before, {"state": state, "raised_at": None})


class Letters(helper.Case):
    def letter(self, sure=False, roads=(PLAIN, KNOWING), raised=None):
        bells = [bell_of(Hour(5), sure, raised, number) for number in (2, 4, 11)]
        bells[1].rounds = 6
        return bells, Letter(bells, list(roads), 300)

    def outcome(self, bells):
        told = {(bell.state, bell.surely, bell.perhaps, bell.doubt, bell.refusals, bell.ready) for bell in bells}
        self.assertEqual(len(told), 1)
        return told.pop()

    def test_tries(self):
        bells, letter = self.letter()
        self.assertEqual(letter.next_try(), ("try", 300, "ann", "bell", "a", ((2, 0), (4, 6), (11, 0))))
        self.assertEqual([bell.tried for bell in bells], [False] * 3)
        self.assertIsNone(letter.road)
        letter.begin_try()
        self.assertIs(letter.road, PLAIN)
        self.assertEqual([bell.tried for bell in bells], [True] * 3)
        self.assertIs(letter.end_try("not", 10), False)
        self.assertIsNone(letter.road)
        self.assertEqual(letter.next_try(), ("try", 300, "ann", "bell", "b", ((2, 0), (4, 6), (11, 0))))

    def test_the_word_is_that_of_its_bells(self):
        bells, letter = self.letter()
        for bell in bells:
            bell.word = "off"
        self.assertEqual(letter.next_try()[3], "off")

    def test_one_try(self):
        waits = ("waits", 0, 0, None, 0, 100)
        for sure, roads, what, ended, told in (
            (False, (PLAIN, KNOWING), "took", True, ("told", 1, 0, None, 0, 100)),
            (True, (PLAIN, KNOWING), "took", True, ("told", 1, 0, None, 0, 100)),
            (False, (PLAIN, KNOWING), "not", False, waits),
            (False, (PLAIN, KNOWING), "perhaps", True, ("told", 0, 1, None, 0, 100)),
            (True, (PLAIN, KNOWING), "perhaps", False, ("waits", 0, 1, None, 0, 100)),
            (False, (KNOWING, PLAIN), "perhaps", True, ("waits", 0, 1, "b", 1, 310)),
            (True, (KNOWING, PLAIN), "perhaps", True, ("waits", 0, 1, "b", 1, 310)),
            (False, (KNOWING, PLAIN), "not", False, waits),
            (True, (KNOWING, PLAIN), "took", True, ("told", 1, 0, None, 0, 100)),
            (False, (PLAIN,), "not", True, ("waits", 0, 0, None, 1, 310)),
            (False, (PLAIN,), "perhaps", True, ("told", 0, 1, None, 0, 100)),
            (True, (PLAIN,), "perhaps", True, ("waits", 0, 1, None, 1, 310)),
            (True, (KNOWING,), "not", True, ("waits", 0, 0, None, 1, 310)),
        ):
            with self.subTest(sure=sure, roads=[road.name for road in roads], what=what):
                bells, letter = self.letter(sure, roads)
                letter.begin_try()
                self.assertIs(letter.end_try(what, 10), ended)
                self.assertEqual(self.outcome(bells), told)

    def test_all_ends_of_three_roads(self):
        third = Road("c", 1)
        for sure in (False, True):
            for whats in itertools.product(("took", "not", "perhaps"), repeat=3):
                bells, letter = self.letter(sure, (PLAIN, KNOWING, third), Raised(10, 1))
                house = helper.PlainHouse([("a", 7, False), ("b", 20, True), ("c", 1, False)], 10, {})
                house.at = 300
                house.wishes = {"ann": (0, None, None, [(("any",), ("hour", 0), NAMES, sure, (10, 1, None))])}
                house.things = [("fire", "hall", 0)]
                house.ring("ann", 0)
                plain = house.bells["ann", 0]
                house.open(("ann", 0))
                for what in whats:
                    letter.begin_try()
                    house.begin()
                    ended = letter.end_try(what, 10)
                    house.end(what)
                    self.assertIs(ended, house.letter is None)
                    for bell in bells:
                        found = (bell.state, bell.surely, bell.perhaps, bell.doubt, bell.refusals, bell.raised_at)
                        told = (plain.state, plain.surely, plain.perhaps, plain.doubt, plain.refusals, plain.again)
                        self.assertEqual(found, told, (sure, whats))
                    if ended:
                        self.assertEqual(bells[0].ready, plain.ready if plain.state == "waits" else 100)
                        break

    def test_each_bell_has_its_own_count_of_refusals(self):
        bells, letter = self.letter(False, (PLAIN,))
        bells[1].refusals = 2
        letter.begin_try()
        letter.end_try("not", 10)
        self.assertEqual([bell.ready for bell in bells], [310, 340, 310])

    def test_heard_by_a_slow_road(self):
        bells, letter = self.letter(False, (KNOWING,), Raised(10, 1))
        letter.begin_try()
        letter.end_try("took", 10)
        self.assertEqual([bell.raised_at for bell in bells], [330] * 3)

    def test_twin(self):
        bells, letter = self.letter()
        letter.begin_try()
        others = [bell.twin() for bell in bells]
        other = letter.twin(others)
        self.assertEqual((other.bells, other.left, other.road, other.moment), (others, [KNOWING], PLAIN, 300))
        other.end_try("not", 10)
        other.begin_try()
        other.end_try("took", 10)
        self.assertEqual((letter.left, letter.road, bells[0].state), ([KNOWING], PLAIN, "waits"))


if __name__ == "__main__":
    unittest.main()
