"""The house: it is put rows, writes each step into its book ahead of taking it, and tells what was and will be."""

from bellsaway.bells import NOT, PERHAPS, TOOK
from bellsaway.errors import Backward, Fallen, NoBook
from bellsaway.judging import first_wrong
from bellsaway.tower import Tower


class House:
    def __init__(self, roads, pause, carrier, lines=None):
        tower = Tower(roads, pause)
        if lines is not None:
            wrong = first_wrong(tower, lines)
            if wrong is not None:
                raise NoBook(wrong)
        self.tower = tower
        self.carrier = carrier
        self.lines = [] if lines is None else list(lines)
        self.fallen = False

    def put(self, row):
        self.check_standing()
        borne = self.tower.borne_by(row)
        start = len(self.lines)
        self.do_due(row[1])
        self.lines.append(row)
        self.tower.do_row(row, borne)
        self.do_due(row[1])
        return self.lines[start:]

    def go_on(self):
        self.check_standing()
        start = len(self.lines)
        # Without a moment there is no bell yet, so that nothing is due however far the time would go.
        self.do_due(self.tower.time)
        return self.lines[start:]

    def check_standing(self):
        if self.fallen:
            raise Fallen("the house has fallen")

    def do_due(self, moment):
        # The tower stays where it is while a letter is open, so one that isn't ended yet goes ahead of all else.
        self.tower.go_up_to(moment)
        while self.tower.letter is not None:
            self.end_letter()
            self.tower.go_up_to(moment)

    def end_letter(self):
        if self.tower.is_trying():
            # The try that a book was cut behind: whether the road took it is not known any more.
            self.end_try(PERHAPS)
        while self.tower.letter is not None:
            self.end_try(self.carry())

    def carry(self):
        attempt = self.tower.letter.next_try()
        self.tower.letter.begin_try()
        self.lines.append(attempt)
        carrier = self.carrier
        # Whatever the carrier raises goes through, so the fall is noted ahead of it, and taken back behind it.
        self.fallen = True
        answer = carrier(attempt[4], attempt[2], attempt[3], attempt[5], attempt[1])
        self.fallen = False
        if answer is None:
            return PERHAPS
        return TOOK if answer else NOT

    def end_try(self, what):
        self.lines.append(("end", self.tower.time, what))
        self.tower.end_try(what)

    def book(self):
        return list(self.lines)

    def clock(self):
        return self.tower.time

    def account(self, hand, number):
        bell = self.tower.bells.get((hand, number))
        return None if bell is None else bell.summary()

    def waiting(self, hand):
        return [(bell.number, self.tower.dues[(hand, bell.number)]) for bell in self.tower.waiting_bells(hand)]

    def next_due(self):
        return self.tower.next_due()

    def letters(self, hand):
        ended = [(attempt, end[2]) for attempt, end in zip(self.lines, self.lines[1:]) if attempt[0] == "try"]
        ended = [(attempt, what) for attempt, what in ended if attempt[2] == hand and what != NOT]
        return [self.letter_of(attempt, what) for attempt, what in ended]

    def letter_of(self, attempt, what):
        heard = attempt[1] + self.tower.roads[attempt[4]].slow
        return (heard, attempt[3], attempt[4], attempt[5], what == TOOK)

    def plan(self, moment):
        if self.tower.time is not None and moment < self.tower.time:
            raise Backward(self.tower.time)
        return planned(self.tower.twin(), moment)


def planned(tower, moment):
    if tower.is_trying():
        tower.end_try(PERHAPS)
    tries = []
    tower.go_up_to(moment)
    while tower.letter is not None:
        attempt = tower.letter.next_try()
        tries.append(attempt[1:])
        tower.letter.begin_try()
        tower.end_try(TOOK)
        tower.go_up_to(moment)
    return tries
