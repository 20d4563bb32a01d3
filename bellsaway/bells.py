"""Bells: one hand's telling of one happening, and letters, in which bells go out together."""

WAITS = "waits"
TOLD = "told"
TAKEN = "taken"
OVER = "over"

BELL = "bell"
OFF = "off"

TOOK = "took"
NOT = "not"
PERHAPS = "perhaps"


class Bell:
    def __init__(self, hand, number, line, ready):
        self.hand = hand
        self.number = number
        self.line = line
        self.state = WAITS
        self.word = BELL
        self.rounds = 0
        self.raisings = 0
        self.refusals = 0
        self.doubt = None
        self.surely = 0
        self.perhaps = 0
        self.gathered = line.way.is_gathered()
        self.tried = False
        self.ready = ready
        self.raised_at = None

    def twin(self):
        other = Bell(self.hand, self.number, self.line, self.ready)
        other.state = self.state
        other.word = self.word
        other.rounds = self.rounds
        other.raisings = self.raisings
        other.refusals = self.refusals
        other.doubt = self.doubt
        other.surely = self.surely
        other.perhaps = self.perhaps
        other.gathered = self.gathered
        other.tried = self.tried
        other.raised_at = self.raised_at
        return other

    def stamp(self):
        return (self.number, self.rounds)

    def summary(self):
        return (self.state, self.word, self.rounds, self.raisings, self.surely, self.perhaps)

    def is_open(self):
        return self.state == WAITS or self.state == TOLD

    def road_names(self):
        names = self.line.roads
        return list(names) if self.doubt is None else names[names.index(self.doubt):]

    def first_names(self):
        # Those by which it may go out next: a doubt is settled by its own road alone.
        return self.road_names() if self.doubt is None else [self.doubt]

    def reckon_anew(self, moment, zone):
        if self.gathered and not self.tried and self.ready > moment:
            self.ready = self.line.way.moment_from(moment, zone)

    def wait_anew(self, ready):
        self.state = WAITS
        self.ready = ready
        self.raised_at = None
        self.gathered = False
        self.refusals = 0
        self.doubt = None

    def close(self, state):
        self.state = state
        self.raised_at = None

    def note_end(self, what, road):
        if what == PERHAPS:
            if self.doubt is None or not road.knows:
                self.perhaps += 1
            if road.knows:
                self.doubt = road.name
            return
        if self.doubt == road.name:
            self.perhaps -= 1
            self.doubt = None
        if what == TOOK:
            self.surely += 1

    def tell(self, heard):
        self.refusals = 0
        if self.word == OFF:
            self.close(OVER)
            return
        self.state = TOLD
        if self.line.raised is not None:
            self.raised_at = heard + self.line.raised.minutes

    def wait_further(self, moment, pause):
        self.refusals += 1
        wait = pause
        for turn in range(self.refusals - 1):
            wait = wait * 2
        self.ready = moment + wait

    def ring_again(self, moment):
        self.wait_anew(moment)
        self.raisings += 1
        self.rounds += 1

    def put_later(self, until):
        if self.state == TOLD or self.doubt is not None:
            self.rounds += 1
        self.wait_anew(until)

    def take_back(self, moment):
        if self.surely == 0 and self.perhaps == 0:
            self.close(OVER)
            return
        self.word = OFF
        self.wait_anew(moment)
        self.rounds += 1


class Letter:
    # Its bells are of one hand and word, and of lines of one text, so that the first one speaks for all.
    def __init__(self, bells, roads, moment):
        self.bells = bells
        self.left = roads
        self.road = None
        self.moment = moment

    def twin(self, bells):
        other = Letter(bells, list(self.left), self.moment)
        other.road = self.road
        return other

    def next_try(self):
        first = self.bells[0]
        stamps = tuple([bell.stamp() for bell in self.bells])
        return ("try", self.moment, first.hand, first.word, self.left[0].name, stamps)

    def begin_try(self):
        self.road = self.left[0]
        self.left = self.left[1:]
        for bell in self.bells:
            bell.tried = True

    def end_try(self, what, pause):
        # True where this ends the letter.
        road = self.road
        self.road = None
        for bell in self.bells:
            bell.note_end(what, road)
        if what == TOOK or (what == PERHAPS and not road.knows and not self.bells[0].line.sure):
            for bell in self.bells:
                bell.tell(self.moment + road.slow)
            return True
        if len(self.left) == 0 or (what == PERHAPS and road.knows):
            for bell in self.bells:
                bell.wait_further(self.moment, pause)
            return True
        return False
