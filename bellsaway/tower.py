"""The tower: all bells of a house with the wishes and happenings they hang on, done as time goes on.

It carries nothing and writes nothing: it tells which try comes next, and is told what came of it. So the house, its
plan and the judge walk through the same steps.
"""

from bellsaway.bells import OVER, TAKEN, WAITS, Bell, Letter
from bellsaway.errors import NoTime
from bellsaway.roads import can_be_used, check_roads, first_use
from bellsaway.rows import checked
from bellsaway.wholes import is_whole_from
from bellsaway.wording import show_line


def check_pause(pause):
    if not is_whole_from(pause, 1):
        raise NoTime("a pause is a whole number from 1 on")


class Tower:
    def __init__(self, roads, pause):
        check_roads(roads)
        check_pause(pause)
        self.roads = dict([(road.name, road) for road in roads])
        self.pause = pause
        self.time = None
        self.wishes = {}
        self.happenings = []
        self.withdrawn = {}
        self.bells = {}
        # At which moment each bell is due, or is to be raised. It is reckoned anew only where its bell or its
        # hand's wishes change: what is due is done ahead of all later moments, so the time alone moves none of it.
        self.dues = {}
        self.letter = None

    def twin(self):
        other = Tower(list(self.roads.values()), self.pause)
        other.time = self.time
        other.wishes = dict(self.wishes)
        other.happenings = list(self.happenings)
        other.withdrawn = dict(self.withdrawn)
        other.bells = dict([(key, bell.twin()) for key, bell in self.bells.items()])
        other.dues = dict(self.dues)
        if self.letter is not None:
            other.letter = self.letter.twin([other.bells[key_of(bell)] for bell in self.letter.bells])
        return other

    def weight_of(self, bell):
        return self.happenings[bell.number].weight + bell.raisings

    def due_of(self, bell):
        roads = [self.roads[name] for name in bell.first_names()]
        start = max(bell.ready, self.time)
        return first_use(roads, self.wishes[bell.hand], self.weight_of(bell), start)[0]

    def settle(self, bell):
        moment = self.due_of(bell) if bell.state == WAITS else bell.raised_at
        if moment is None:
            self.dues.pop(key_of(bell), None)
        else:
            self.dues[key_of(bell)] = moment

    def ring(self, hand, number):
        wishes = self.wishes[hand]
        line = wishes.line_for(self.happenings[number])
        if line is None:
            return
        bell = Bell(hand, number, line, line.way.moment_from(self.time, wishes.zone))
        self.bells[key_of(bell)] = bell
        self.settle(bell)

    def bells_of(self, number):
        keys = [(hand, number) for hand in self.wishes]
        return [self.bells[key] for key in keys if key in self.bells]

    def waiting_bells(self, hand):
        bells = [self.bells[key] for key in sorted(self.dues) if key[0] == hand]
        return [bell for bell in bells if bell.state == WAITS]

    def next_due(self):
        return None if len(self.dues) == 0 else min(self.dues.values())

    def go_up_to(self, moment):
        # All that is raised by then is raised, up to the first letter that goes out by then, which is opened.
        # Without a moment the time goes on as long as something is to come.
        while self.letter is None and len(self.dues) > 0:
            first = min([(due, key) for key, due in self.dues.items()])
            if moment is not None and first[0] > moment:
                return
            self.time = first[0]
            bell = self.bells[first[1]]
            if bell.state == WAITS:
                self.open_letter(bell)
            else:
                self.raise_bell(bell)

    def raise_bell(self, bell):
        raised = bell.line.raised
        if bell.raisings < raised.times:
            bell.ring_again(self.time)
        elif raised.to is None:
            bell.raised_at = None
        else:
            bell.close(OVER)
            self.lead_on(raised.to, bell.number)
        self.settle(bell)

    def lead_on(self, hand, number):
        if hand in self.wishes and (hand, number) not in self.bells:
            self.ring(hand, number)

    def go_together(self, bell):
        if not bell.gathered:
            return [bell]
        due = self.dues[key_of(bell)]
        text = show_line(bell.line)
        found = [other for other in self.waiting_bells(bell.hand) if other.gathered and other.doubt == bell.doubt]
        found = [other for other in found if self.dues[key_of(other)] == due]
        return [other for other in found if show_line(other.line) == text]

    def can_go_by(self, road, bells):
        wishes = self.wishes[bells[0].hand]
        return all([can_be_used(road, wishes, self.weight_of(bell), self.time) for bell in bells])

    def open_letter(self, bell):
        bells = self.go_together(bell)
        roads = [self.roads[name] for name in bell.road_names()]
        self.letter = Letter(bells, [road for road in roads if self.can_go_by(road, bells)], self.time)

    def is_trying(self):
        return self.letter is not None and self.letter.road is not None

    def end_try(self, what):
        if self.letter.end_try(what, self.pause):
            for bell in self.letter.bells:
                self.settle(bell)
            self.letter = None

    def borne_by(self, row):
        return checked(row, self.time, self.roads, len(self.happenings))

    def do_row(self, row, borne):
        self.time = row[1]
        if row[0] == "wish":
            self.wish(row[2], borne)
        elif row[0] == "happen":
            self.happen(borne)
        elif row[0] == "take":
            self.take(row[2], row[3])
        elif row[0] == "later":
            self.put_later(row[2], row[3], row[4])
        elif row[0] == "back":
            self.take_back(row[2])

    def wish(self, hand, wishes):
        self.wishes[hand] = wishes
        for bell in self.waiting_bells(hand):
            bell.reckon_anew(self.time, wishes.zone)
            self.settle(bell)

    def happen(self, happening):
        self.happenings.append(happening)
        for hand in self.wishes:
            self.ring(hand, len(self.happenings) - 1)

    def take(self, hand, number):
        bell = self.bells.get((hand, number))
        if bell is not None and bell.is_open():
            bell.close(TAKEN)
            self.settle(bell)

    def put_later(self, hand, number, until):
        bell = self.bells.get((hand, number))
        if bell is not None and bell.is_open():
            bell.put_later(until)
            self.settle(bell)

    def take_back(self, number):
        if number in self.withdrawn:
            return
        self.withdrawn[number] = True
        for bell in self.bells_of(number):
            if bell.is_open():
                bell.take_back(self.time)
                self.settle(bell)


def key_of(bell):
    return (bell.hand, bell.number)
