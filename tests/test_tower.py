"""The tower: what is due and in which order, letters, raised and led on, rows done (points 22, 25 to 34)."""

import random
import unittest

import helper
from bellsaway.errors import NoRoad, NoTime
from bellsaway.roads import Road
from bellsaway.tower import Tower

ROADS = [("pager", 0, False), ("mail", 30, True), ("bird", 60, False)]


def carried(tower, moment, answer):
    lines = []
    tower.go_up_to(moment)
    while tower.letter is not None:
        attempt = tower.letter.next_try()
        tower.letter.begin_try()
        what = helper.WHATS[answer(attempt[4], attempt[2], attempt[3], attempt[5], attempt[1])]
        lines += [attempt, ("end", tower.time, what)]
        tower.end_try(what)
        tower.go_up_to(moment)
    return lines


def put(tower, row, answer):
    borne = tower.borne_by(row)
    lines = carried(tower, row[1], answer) + [row]
    tower.do_row(row, borne)
    return lines + carried(tower, row[1], answer)


def took(*parts):
    return True


def facts(bell):
    """All of a bell that a later step hangs on, as the plain reckoning has it."""
    waits = bell.state == "waits"
    return (bell.state, bell.word, bell.rounds, bell.raisings, bell.refusals, bell.doubt, bell.surely, bell.perhaps,
            bell.raised_at, waits and bell.gathered, waits and bell.tried, waits and bell.ready)


def plain_facts(bell):
    waits = bell.state == "waits"
    return (bell.state, bell.word, bell.round, bell.raisings, bell.refusals, bell.doubt, bell.surely, bell.perhaps,
            bell.again, waits and bell.gathered, waits and bell.tried, waits and bell.ready)


class Told(helper.Case):
    """A tower that is put rows by a carrier whose answers are handed in one by one; then each is taken."""

    def setUp(self):
        self.tower = Tower([Road(*road) for road in ROADS], 10)
        self.answers = []
        self.now = 0

    def answer(self, *parts):
        return self.answers.pop(0) if self.answers else True

    def put(self, *row):
        return put(self.tower, row, self.answer)

    def wish(self, hand, text, moment=0, zone=0):
        self.put("wish", moment, hand, "zone {} ; {}".format(zone, text))

    def tries(self, moment, *answers):
        self.answers = list(answers)
        lines = self.put("go", moment)
        self.assertEqual(self.answers, [])
        return [(line[1], line[2], line[3], line[4]) + line[5] for line in lines if line[0] == "try"]

    def bell(self, hand, number):
        return self.tower.bells[hand, number]


class Made(helper.Case):
    def test_refused(self):
        good = Road("mail")
        for bad in (
            [], (), (good,), [good, good], [good, Road("mail", 5)], [Road("a"), Road("b"), Road("a", 1)], ["mail"],
            [good, None], [good, "mail"], [Road], {"mail": good}, good,
        ) + helper.THINGS:
            for pause in (1, 0, None):
                self.assertIsNone(self.assert_refused(NoRoad, Tower, bad, pause).road)
        for bad in helper.bad_wholes(1):
            self.assert_refused(NoTime, Tower, [good], bad)
        Tower([good, Road("by")], 1)
        Tower([good], 999999)

    def test_the_list_of_roads_is_kept_as_it_was(self):
        roads = [Road("mail")]
        tower = Tower(roads, 1)
        roads.clear()
        self.assertEqual(list(tower.roads), ["mail"])

    def test_at_first(self):
        tower = Tower([Road("mail")], 5)
        self.assertEqual((tower.time, tower.bells, tower.dues, tower.letter), (None, {}, {}, None))
        self.assertIsNone(tower.next_due())
        tower.go_up_to(None)
        tower.go_up_to(1000)
        self.assertEqual((tower.time, tower.letter, tower.is_trying()), (None, None, False))


class Due(Told):
    def test_hands_that_have_wishes_for_it_get_a_bell(self):
        self.wish("ann", "kind fire : hour 0 by 1 pager")
        self.wish("bob", "place hall : never ; any : hour 0 by 1 pager")
        self.put("happen", 1, "fire", "hall", 0)
        self.put("happen", 1, "flood", "yard", 0)
        self.wish("cy", "any : hour 0 by 1 pager", 1)
        self.put("happen", 1, "fire", "yard", 0)
        self.assertEqual(sorted(self.tower.bells), [("ann", 0), ("ann", 2), ("bob", 1), ("bob", 2), ("cy", 2)])

    def test_the_line_is_the_bells_for_good(self):
        self.wish("ann", "any : day 480 by 1 bird")
        self.put("happen", 1, "fire", "hall", 0)
        self.wish("ann", "any : never", 2)
        self.assertEqual(self.tries(1000), [(480, "ann", "bell", "bird", (0, 0))])

    def test_ready_by_the_zone_and_anew_by_a_new_one(self):
        self.wish("ann", "any : day 480 by 1 pager", 0, 60)
        self.put("happen", 1, "fire", "hall", 0)
        self.assertEqual(self.tower.dues, {("ann", 0): 420})
        self.wish("ann", "any : never", 10, 120)
        self.assertEqual(self.tower.dues, {("ann", 0): 360})
        self.wish("bob", "any : never", 20, -60)
        self.assertEqual(self.tower.dues, {("ann", 0): 360})
        self.wish("ann", "any : never", 359, 0)
        self.assertEqual(self.tower.dues, {("ann", 0): 480})
        self.wish("ann", "any : never", 470, 11)
        self.assertEqual(self.tower.dues, {("ann", 0): 470 + 1439})

    def test_ready_is_not_reckoned_anew_where_it_is_not_above(self):
        self.put("wish", 0, "ann", "zone 0 ; quiet 400 600 ; any : day 480 by 1 pager")
        self.put("happen", 1, "fire", "hall", 0)
        self.assertEqual(self.tower.dues, {("ann", 0): 600})
        self.put("wish", 480, "ann", "zone 1 ; quiet 400 600 ; any : never")
        self.assertEqual(self.tower.dues, {("ann", 0): 599})
        self.assertEqual(self.put("wish", 500, "ann", "zone 0")[1:], [
            ("try", 500, "ann", "bell", "pager", ((0, 0),)), ("end", 500, "took"),
        ])

    def test_ready_is_not_reckoned_anew_where_it_was_tried(self):
        self.wish("ann", "any : day 480 by 1 pager")
        self.put("happen", 1, "fire", "hall", 0)
        self.tries(480, False)
        self.assertEqual(self.tower.dues, {("ann", 0): 490})
        self.wish("ann", "any : never", 481, 5)
        self.assertEqual(self.tower.dues, {("ann", 0): 490})

    def test_due_by_the_wishes_of_now(self):
        self.put("wish", 0, "ann", "zone 0 ; quiet 0 600 ; any : now by 2 pager bird")
        self.put("happen", 1, "fire", "hall", 5)
        self.assertEqual(self.tower.dues, {("ann", 0): 540})
        self.put("wish", 2, "ann", "zone 0 ; quiet 0 300 6 ; any : never")
        self.assertEqual(self.tower.dues, {("ann", 0): 240})
        self.assertEqual(self.put("wish", 3, "ann", "zone 0 ; quiet 0 300 5 ; any : never")[1],
                         ("try", 3, "ann", "bell", "pager", ((0, 0),)))

    def test_raisings_count_for_the_weight(self):
        self.put("wish", 0, "ann", "zone 0 ; quiet 60 600 2 ; any : now by 1 pager raise 30 5")
        self.put("happen", 40, "fire", "hall", 0)
        self.assertEqual(self.tries(640), [(600, "ann", "bell", "pager", (0, 1)), (630, "ann", "bell", "pager", (0, 2))])
        self.put("happen", 1499, "fire", "hall", 1)
        self.assertEqual(self.tries(1560)[-2:], [
            (1529, "ann", "bell", "pager", (1, 1)), (1559, "ann", "bell", "pager", (1, 2)),
        ])

    def test_a_doubt_waits_for_its_own_road(self):
        self.put("wish", 0, "ann", "zone 0 ; quiet 100 200 ; any : now by 3 pager mail bird")
        self.put("happen", 60, "fire", "hall", 0)
        self.tower.bells.clear()
        self.tower.dues.clear()
        self.answers = [False, None]
        self.put("happen", 65, "fire", "hall", 0)
        self.assertEqual(self.bell("ann", 1).doubt, "mail")
        self.assertEqual(self.tower.dues, {("ann", 1): 170})
        self.assertEqual(self.tries(170, False), [(170, "ann", "bell", "mail", (1, 0)), (170, "ann", "bell", "bird", (1, 0))])

    def test_the_order_of_what_is_due(self):
        for hand in ("cy", "ann", "bob"):
            self.wish(hand, "kind fire : hour 10 by 1 pager ; any : hour 5 by 1 pager")
        for kind in ("fire", "flood", "flood"):
            self.put("happen", 1, kind, "hall", 0)
        self.assertEqual(self.tries(100), [
            (5, "ann", "bell", "pager", (1, 0), (2, 0)), (5, "bob", "bell", "pager", (1, 0), (2, 0)),
            (5, "cy", "bell", "pager", (1, 0), (2, 0)), (10, "ann", "bell", "pager", (0, 0)),
            (10, "bob", "bell", "pager", (0, 0)), (10, "cy", "bell", "pager", (0, 0)),
        ])

    def test_numbers_by_their_size_and_one_by_one_where_not_gathered(self):
        self.put("wish", 0, "ann", "zone 0 ; quiet 0 20 ; any : now by 1 pager")
        for number in range(12):
            self.put("happen", 1, "fire", "hall", 0)
        self.assertEqual(self.tries(20), [(20, "ann", "bell", "pager", (number, 0)) for number in range(12)])

    def test_what_is_raised_stands_in_the_same_order(self):
        self.wish("bob", "any : now by 1 pager raise 10 0 ann")
        self.wish("ann", "place hall : never ; any : now by 1 pager raise 10 0 cy")
        self.wish("cy", "any : now by 1 pager")
        self.put("wish", 0, "ann", "zone 0 ; kind fire : now by 1 pager raise 10 0 cy")
        self.put("happen", 0, "flood", "hall", 0)
        self.put("wish", 5, "ann", "zone 0 ; any : now by 1 bird raise 10 0 cy")
        # At 10 bob's bell is led on to ann, ahead of what cy has at that moment.
        self.put("later", 6, "cy", 0, 10)
        self.assertEqual(self.tries(10), [(10, "ann", "bell", "bird", (0, 0)), (10, "cy", "bell", "pager", (0, 1))])

    def test_no_further_than_the_moment(self):
        self.wish("ann", "any : hour 5 by 1 pager raise 1 1")
        self.put("happen", 1, "fire", "hall", 0)
        self.assertEqual(self.tries(4), [])
        self.assertEqual(self.tries(5), [(5, "ann", "bell", "pager", (0, 0))])
        self.assertEqual(self.bell("ann", 0).state, "told")
        self.assertEqual(self.tries(6), [(6, "ann", "bell", "pager", (0, 1))])

    def test_next_due_is_of_what_waits_and_what_is_to_be_raised(self):
        self.wish("ann", "kind fire : now by 1 pager raise 9 1 ; any : hour 5 by 1 pager")
        self.put("happen", 0, "fire", "hall", 0)
        self.assertEqual(self.tower.next_due(), 9)
        self.put("happen", 0, "flood", "hall", 0)
        self.assertEqual(self.tower.next_due(), 5)
        self.tries(17)
        self.assertEqual(self.tower.next_due(), 18)
        self.tries(18)
        self.assertIsNone(self.tower.next_due())


class Letters(Told):
    def test_lines_of_the_same_text_go_together(self):
        self.wish("ann", "kind fire : hour 5 by 1 pager ; any : hour 5 by 1 pager")
        self.put("happen", 1, "fire", "hall", 0)
        self.put("happen", 1, "flood", "hall", 0)
        self.wish("ann", "any : never ; kind fire : hour 5 by 1 pager", 2)
        self.wish("ann", "kind fire : hour 5 by 1 pager", 3)
        self.put("happen", 4, "fire", "hall", 0)
        self.assertEqual(self.tries(5), [(5, "ann", "bell", "pager", (0, 0), (2, 0)), (5, "ann", "bell", "pager", (1, 0))])

    def test_of_one_hand_alone(self):
        for hand in ("ann", "bob"):
            self.wish(hand, "any : hour 5 by 1 pager")
        self.put("happen", 1, "fire", "hall", 0)
        self.put("happen", 2, "fire", "hall", 0)
        self.assertEqual(self.tries(5), [(5, hand, "bell", "pager", (0, 0), (1, 0)) for hand in ("ann", "bob")])

    def test_with_the_same_due_moment(self):
        self.put("wish", 0, "ann", "zone 0 ; quiet 0 100 ; any : hour 5 by 1 pager")
        for moment in (1, 30, 70):
            self.put("happen", moment, "fire", "hall", 0)
        self.assertEqual(self.tower.dues, {("ann", 0): 100, ("ann", 1): 100, ("ann", 2): 125})
        self.assertEqual(self.tries(125), [(100, "ann", "bell", "pager", (0, 0), (1, 0)), (125, "ann", "bell", "pager", (2, 0))])

    def test_with_the_same_doubt(self):
        self.wish("ann", "any : hour 5 by 2 mail pager")
        self.put("happen", 1, "fire", "hall", 0)
        self.assertEqual(len(self.tries(5, None)), 1)
        self.assertEqual(self.tower.dues, {("ann", 0): 15})
        self.put("happen", 6, "fire", "hall", 0)
        self.tower.dues["ann", 1] = 15
        self.bell("ann", 1).ready = 15
        self.assertEqual(self.tries(15), [(15, "ann", "bell", "mail", (0, 0)), (15, "ann", "bell", "mail", (1, 0))])

    def test_tried_ones_go_with_those_that_are_not(self):
        self.wish("ann", "any : hour 5 by 1 pager")
        self.put("happen", 55, "fire", "hall", 0)
        self.tries(65, False)
        self.put("happen", 66, "fire", "hall", 0)
        self.tries(80, False)
        self.tries(100, False)
        self.assertEqual(self.tower.dues, {("ann", 0): 135, ("ann", 1): 125})

    def test_by_roads_that_each_can_use(self):
        self.put("wish", 0, "ann", "zone 0 ; quiet 65 200 5 ; any : hour 5 by 3 bird pager mail")
        self.put("happen", 1, "fire", "hall", 5)
        self.put("happen", 1, "fire", "hall", 4)
        self.assertEqual(self.tries(5, False, False), [(5, "ann", "bell", "pager", (0, 0), (1, 0)),
                                                       (5, "ann", "bell", "mail", (0, 0), (1, 0))])

    def test_what_was_put_later_goes_alone(self):
        self.wish("ann", "any : hour 5 by 1 pager")
        for number in range(3):
            self.put("happen", 1, "fire", "hall", 0)
        self.put("later", 2, "ann", 1, 5)
        self.assertEqual(self.tries(5), [(5, "ann", "bell", "pager", (0, 0), (2, 0)), (5, "ann", "bell", "pager", (1, 0))])

    def test_refused_again_and_again(self):
        self.wish("ann", "any : now by 2 pager bird")
        self.answers = [False, False]
        self.put("happen", 0, "fire", "hall", 0)
        moments = [0]
        for refusals in range(1, 8):
            moments.append(moments[-1] + 10 * 2 ** (refusals - 1))
            self.assertEqual(self.tower.dues, {("ann", 0): moments[-1]})
            self.assertEqual([attempt[0] for attempt in self.tries(moments[-1], False, False)], [moments[-1]] * 2)
        self.tries(10 ** 6, None)
        self.assertEqual(self.bell("ann", 0).summary(), ("told", "bell", 0, 0, 0, 1))


class Raised(Told):
    def test_raised_up_to_its_times_then_led_on(self):
        self.wish("ann", "any : hour 5 by 1 bird raise 10 2 bob")
        self.wish("bob", "any : never")
        self.put("happen", 0, "fire", "hall", 0)
        self.wish("bob", "any : hour 30 by 1 pager", 6)
        self.assertEqual(self.tries(1000), [
            (5, "ann", "bell", "bird", (0, 0)), (75, "ann", "bell", "bird", (0, 1)), (145, "ann", "bell", "bird", (0, 2)),
            (270, "bob", "bell", "pager", (0, 0)),
        ][1:])
        self.assertEqual(self.bell("ann", 0).summary(), ("over", "bell", 2, 2, 3, 0))
        self.assertEqual(self.bell("bob", 0).summary(), ("told", "bell", 0, 0, 1, 0))

    def test_no_hand_to_lead_on_to(self):
        self.wish("ann", "any : now by 1 pager raise 10 1")
        self.put("happen", 0, "fire", "hall", 0)
        self.assertEqual(len(self.tries(1000)), 1)
        self.assertEqual(self.bell("ann", 0).summary(), ("told", "bell", 1, 1, 2, 0))
        self.put("later", 1000, "ann", 0, 2000)
        self.assertEqual(self.tries(3000), [(2000, "ann", "bell", "pager", (0, 2))])
        self.assertEqual(self.bell("ann", 0).summary(), ("told", "bell", 2, 1, 3, 0))

    def test_led_on_to_nobody_it_can_be_led_on_to(self):
        for text, told in (
            (None, []), ("any : never", []), ("kind flood : now by 1 pager", []),
            ("any : now by 1 pager", [(10, "bob", "bell", "pager", (0, 0))]),
        ):
            self.setUp()
            self.wish("ann", "any : now by 1 pager raise 10 0 bob")
            self.put("happen", 0, "fire", "hall", 0)
            if text:
                self.wish("bob", text, 1)
            self.assertEqual(self.tries(1000), told)
            self.assertEqual(self.bell("ann", 0).summary(), ("over", "bell", 0, 0, 1, 0))

    def test_led_on_to_one_that_has_a_bell_of_it(self):
        self.wish("ann", "any : now by 1 pager raise 10 0 bob")
        self.wish("bob", "any : now by 1 pager raise 20 0 ann")
        self.put("happen", 0, "fire", "hall", 0)
        self.assertEqual(self.tries(1000), [])
        self.assertEqual([self.bell(hand, 0).state for hand in ("ann", "bob")], ["over", "over"])

    def test_led_on_to_itself(self):
        self.wish("ann", "any : now by 1 pager raise 10 0 ann")
        self.put("happen", 0, "fire", "hall", 0)
        self.assertEqual(self.tries(1000), [])
        self.assertEqual(self.bell("ann", 0).state, "over")

    def test_led_on_further(self):
        for hand, to in (("ann", "bob"), ("bob", "cy"), ("cy", "ann")):
            self.wish(hand, "kind {} : now by 1 pager raise 10 0 {}".format("fire" if hand == "ann" else "flood", to))
        self.put("happen", 0, "fire", "hall", 0)
        for hand, to in (("bob", "cy"), ("cy", "ann")):
            self.wish(hand, "any : now by 1 pager raise 10 0 {}".format(to), 1)
        self.assertEqual(self.tries(100), [(10, "bob", "bell", "pager", (0, 0)), (20, "cy", "bell", "pager", (0, 0))])


class Rows(Told):
    def test_taken(self):
        self.wish("ann", "any : now by 1 pager raise 10 5 ; any : never")
        self.wish("bob", "any : hour 30 by 1 pager")
        self.put("happen", 0, "fire", "hall", 0)
        self.put("take", 1, "ann", 0)
        self.put("take", 1, "bob", 0)
        self.put("take", 2, "bob", 0)
        self.put("take", 2, "cy", 0)
        self.put("later", 2, "bob", 0, 50)
        self.put("later", 2, "cy", 0, 50)
        self.put("back", 3, 0)
        self.assertEqual(self.tries(1000), [])
        self.assertEqual(self.bell("ann", 0).summary(), ("taken", "bell", 0, 0, 1, 0))
        self.assertEqual(self.bell("bob", 0).summary(), ("taken", "bell", 0, 0, 0, 0))
        self.assertEqual(self.tower.dues, {})

    def test_later_while_it_waits(self):
        self.wish("ann", "any : hour 30 by 1 pager")
        self.put("happen", 0, "fire", "hall", 0)
        self.put("later", 1, "ann", 0, 20)
        self.assertEqual(self.tries(100), [(20, "ann", "bell", "pager", (0, 0))])

    def test_later_while_it_is_told(self):
        self.wish("ann", "any : now by 1 pager raise 10 1")
        self.put("happen", 0, "fire", "hall", 0)
        self.put("later", 1, "ann", 0, 20)
        self.assertEqual(self.tries(100), [(20, "ann", "bell", "pager", (0, 1)), (30, "ann", "bell", "pager", (0, 2))])

    def test_later_while_it_has_a_doubt(self):
        self.wish("ann", "any : now by 2 pager mail")
        self.answers = [False, None]
        self.put("happen", 0, "fire", "hall", 0)
        self.put("later", 1, "ann", 0, 20)
        self.assertEqual(self.tries(100, False, False, True),
                         [(20, "ann", "bell", "pager", (0, 1)), (20, "ann", "bell", "mail", (0, 1)),
                          (30, "ann", "bell", "pager", (0, 1))])
        self.assertEqual(self.bell("ann", 0).summary(), ("told", "bell", 1, 0, 1, 1))

    def test_later_within_quiet_hours(self):
        self.put("wish", 0, "ann", "zone 0 ; quiet 100 200 ; any : now by 1 pager")
        self.put("happen", 0, "fire", "hall", 0)
        self.put("later", 1, "ann", 0, 120)
        self.assertEqual(self.tower.dues, {("ann", 0): 200})

    def test_back_ahead_of_being_told(self):
        self.wish("ann", "any : hour 30 by 1 pager")
        self.put("happen", 0, "fire", "hall", 0)
        self.put("back", 1, 0)
        self.assertEqual((self.bell("ann", 0).summary(), self.tower.dues), (("over", "bell", 0, 0, 0, 0), {}))

    def test_back_behind_being_told(self):
        self.wish("ann", "any : now by 1 pager raise 10 3 bob")
        self.wish("bob", "kind flood : now by 1 pager ; any : hour 30 by 1 pager")
        self.put("happen", 0, "fire", "hall", 0)
        self.tries(35)
        lines = self.put("back", 35, 0)
        self.assertEqual(lines[1:], [
            ("try", 35, "ann", "off", "pager", ((0, 4),)), ("end", 35, "took"),
            ("try", 35, "bob", "off", "pager", ((0, 1),)), ("end", 35, "took"),
        ])
        self.assertEqual(self.tries(1000), [])
        self.assertEqual(self.bell("ann", 0).summary(), ("over", "off", 4, 3, 5, 0))

    def test_back_where_a_doubt_was_said_to_be_nothing(self):
        self.wish("ann", "any : now by 1 mail")
        self.answers = [None]
        self.put("happen", 0, "fire", "hall", 0)
        self.tries(10, False)
        self.put("back", 11, 0)
        self.assertEqual(self.bell("ann", 0).summary(), ("over", "bell", 0, 0, 0, 0))

    def test_back_while_it_has_a_doubt(self):
        self.wish("ann", "any : now by 1 mail")
        self.answers = [None]
        self.put("happen", 0, "fire", "hall", 0)
        self.answers = [False]
        self.assertEqual(self.put("back", 1, 0)[1], ("try", 1, "ann", "off", "mail", ((0, 1),)))
        self.assertEqual(self.bell("ann", 0).summary(), ("waits", "off", 1, 0, 0, 1))

    def test_back_a_second_time(self):
        self.wish("ann", "any : now by 1 pager")
        self.put("happen", 0, "fire", "hall", 0)
        self.answers = [False]
        self.put("back", 1, 0)
        self.put("later", 2, "ann", 0, 50)
        before = facts(self.bell("ann", 0))
        self.assertEqual(before[:3], ("waits", "off", 1))
        self.put("back", 3, 0)
        self.assertEqual(facts(self.bell("ann", 0)), before)
        self.assertEqual(self.tries(50), [(50, "ann", "off", "pager", (0, 1))])

    def test_back_of_one_alone(self):
        self.wish("ann", "any : hour 30 by 1 pager")
        self.put("happen", 0, "fire", "hall", 0)
        self.put("happen", 0, "fire", "hall", 0)
        self.put("back", 1, 1)
        self.assertEqual(self.tries(30), [(30, "ann", "bell", "pager", (0, 0))])

    def test_off_is_put_later_too(self):
        self.wish("ann", "any : now by 1 pager")
        self.put("happen", 0, "fire", "hall", 0)
        self.answers = [False]
        self.put("back", 1, 0)
        self.put("take", 2, "ann", 0)
        self.assertEqual((self.tries(1000), self.bell("ann", 0).summary()), ([], ("taken", "off", 1, 0, 1, 0)))


class AsReckoned(helper.Case):
    def test_all_bells_behind_each_row(self):
        for seed in range(150):
            chance = random.Random(seed)
            scene = helper.Scene(chance, chance.choice((5, 15, 30)))
            tower = Tower(scene.made_roads(), scene.pause)
            plain = scene.plain()
            for row in scene.rows:
                self.assertEqual(put(tower, row, scene.answer), plain.put(row, scene.answer), (seed, row))
                self.assertEqual({key: facts(bell) for key, bell in tower.bells.items()},
                                 {key: plain_facts(bell) for key, bell in plain.bells.items()}, (seed, row))
                dues = {key: plain.due(key) for key in plain.bells}
                self.assertEqual(tower.dues, {key: due for key, due in dues.items() if due is not None}, (seed, row))
                self.assertEqual(tower.time, row[1])

    def test_a_twin_goes_its_own_way(self):
        for seed in range(40):
            chance = random.Random(seed)
            scene = helper.Scene(chance, 20)
            tower = Tower(scene.made_roads(), scene.pause)
            for number, row in enumerate(scene.rows[:-1]):
                put(tower, row, scene.answer)
                twin = tower.twin()
                before = {key: facts(bell) for key, bell in tower.bells.items()}
                dues = dict(tower.dues)
                lines = carried(twin, row[1] + 2000, took)
                self.assertEqual(lines, carried(tower.twin(), row[1] + 2000, took))
                self.assertEqual({key: facts(bell) for key, bell in tower.bells.items()}, before)
                self.assertEqual((tower.dues, tower.time, tower.letter), (dues, row[1], None))
                other = tower.twin()
                following = scene.rows[number + 1]
                put(other, following, scene.answer)
                self.assertEqual((tower.dues, tower.time, len(tower.happenings)),
                                 (dues, row[1], len([line for line in scene.rows[:number + 1] if line[0] == "happen"])))

    def test_rows_done_by_a_twin(self):
        tower = Tower([Road("mail")], 10)
        for row in (("wish", 0, "ann", "zone 0 ; any : now by 1 mail"), ("happen", 0, "fire", "hall", 0),
                    ("happen", 0, "fire", "hall", 0), ("back", 1, 0)):
            put(tower, row, took if row[0] == "happen" else lambda *parts: False)
        other = tower.twin()
        self.assertEqual(facts(tower.bells["ann", 0])[:3], ("waits", "off", 1))
        self.assertEqual(put(other, ("back", 2, 0), took), [("back", 2, 0)])
        self.assertEqual(put(other, ("back", 2, 1), took)[1], ("try", 2, "ann", "off", "mail", ((1, 1),)))
        self.assertEqual(put(tower, ("back", 2, 1), took)[1], ("try", 2, "ann", "off", "mail", ((1, 1),)))


if __name__ == "__main__":
    unittest.main()
