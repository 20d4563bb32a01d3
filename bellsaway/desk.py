"""The desk: a house that is told rows as texts, and answers each by a text."""

from bellsaway.bells import NOT, PERHAPS, TOOK
from bellsaway.errors import NoRow, NoText
from bellsaway.house import House
from bellsaway.judging import judge
from bellsaway.roads import Road
from bellsaway.texts import read_book, read_row, show_book, show_parts
from bellsaway.words import Words

FALL = "fall"
KNOWS = "knows"
PLAIN = "plain"
JUDGE = "judge\n"


class Falls(Exception):
    pass


def carrier_by(weather):
    def carry(road, hand, word, stamps, moment):
        what = weather[road]
        if what == FALL:
            raise Falls()
        return None if what == PERHAPS else what == TOOK

    return carry


class Desk:
    def __init__(self):
        self.house = None
        self.roads = []
        self.pause = None
        self.weather = {}

    def say(self, row):
        try:
            return self.answer(row)
        except NoText:
            # All that a row says is read ahead of what it does, so nothing is changed here.
            raise NoRow("no such row") from None

    def answer(self, row):
        words = Words(row)
        if words.takes("house"):
            return self.make(words)
        if self.house is None:
            raise NoRow("there is no house yet")
        if row.startswith(JUDGE):
            return self.judge_text(row[len(JUDGE):])
        if words.takes("weather"):
            return self.change(words)
        if words.takes("rise"):
            return self.rise(words)
        if words.look() in ("book", "account", "waits", "next", "plan"):
            return self.tell(words)
        return self.put(read_row(row))

    def make(self, words):
        pause = words.take_number()
        parts = []
        while not words.is_ended():
            parts.append((words.take_name(), words.take_number(), words.take_one_of((KNOWS, PLAIN))))
        roads = [Road(name, slow, knowing == KNOWS) for name, slow, knowing in parts]
        weather = dict([(road.name, TOOK) for road in roads])
        self.house = House(roads, pause, carrier_by(weather))
        self.roads = roads
        self.pause = pause
        self.weather = weather
        return "ok"

    def change(self, words):
        road = words.take_one_of(self.weather)
        what = words.take_one_of((TOOK, NOT, PERHAPS, FALL))
        words.expect_end()
        self.weather[road] = what
        return "ok"

    def rise(self, words):
        words.expect_end()
        self.house = House(self.roads, self.pause, carrier_by(self.weather), self.house.book())
        try:
            lines = self.house.go_on()
        except Falls:
            return "fallen"
        return show_book(lines)

    def put(self, row):
        try:
            lines = self.house.put(row)
        except Falls:
            return "fallen"
        return show_book(lines)

    def judge_text(self, text):
        try:
            lines = read_book(text)
        except NoText as refusal:
            return str(refusal.line)
        wrong = judge(self.roads, self.pause, lines)
        return "right" if wrong is None else str(wrong)

    def tell(self, words):
        word = words.take()
        if word == "account":
            return self.tell_account(words)
        if word == "waits":
            return self.tell_waits(words)
        if word == "plan":
            return self.tell_plan(words)
        words.expect_end()
        if word == "book":
            return show_book(self.house.book())
        moment = self.house.next_due()
        return "none" if moment is None else str(moment)

    def tell_account(self, words):
        hand = words.take_name()
        number = words.take_count()
        words.expect_end()
        parts = self.house.account(hand, number)
        return "none" if parts is None else show_parts(parts)

    def tell_waits(self, words):
        hand = words.take_name()
        words.expect_end()
        return ", ".join([show_parts(pair) for pair in self.house.waiting(hand)])

    def tell_plan(self, words):
        moment = words.take_number()
        words.expect_end()
        return "\n".join([show_parts(attempt) for attempt in self.house.plan(moment)])
