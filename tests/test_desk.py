"""The desk, row by row against a house that is put the same rows (points 48, 49)."""

import random
import unittest

import helper
import test_texts
from bellsaway.desk import Desk
from bellsaway.errors import Backward, Fallen, NoNumber, NoRoad, NoRow, NoTime
from bellsaway.house import House
from bellsaway.judging import judge
from bellsaway.roads import Road
from bellsaway.texts import show_book

MADE = "house 10 pager 0 plain mail 30 knows bird 60 plain"
ROADS = [Road("pager"), Road("mail", 30, True), Road("bird", 60)]
WISH = "wish 0 ann zone 0 ; kind fire : now by 2 pager mail raise 10 1 bob ; any : hour 5 by 1 mail"
GOOD = (MADE, "weather mail not", "book", "rise", "account ann 0", "waits ann", "next", "plan 500", "judge\n", WISH, "go 5")


def stamps_text(stamps):
    return " ".join("{}.{}".format(number, rounds) for number, rounds in stamps)


def all_told(desk):
    return [desk.say(row) for row in ("book", "account ann 0", "account bob 0", "waits ann", "waits bob", "next", "plan 999")]


class Talk(helper.Case):
    def setUp(self):
        self.desk = Desk()

    def say(self, row):
        told = self.desk.say(row)
        self.assertIs(type(told), str)
        return told

    def talk(self, *pairs):
        for row, answer in pairs:
            self.assertEqual(self.say(row), answer, row)

    def refused(self, refusal, row):
        return self.assert_refused(refusal, self.desk.say, row)


class WrittenOut(Talk):
    def test_rows_and_answers(self):
        self.talk(
            (MADE, "ok"), ("book", ""), ("next", "none"), ("waits ann", ""), ("account ann 0", "none"), ("plan 5", ""),
            ("plan -5", ""), ("rise", ""), (WISH, WISH), ("weather pager not", "ok"),
            ("happen 1 fire hall 0", "happen 1 fire hall 0\ntry 1 ann bell pager 0.0\nend 1 not\n"
                                     "try 1 ann bell mail 0.0\nend 1 took"),
            ("account ann 0", "told bell 0 0 1 0"), ("next", "41"),
            ("happen 2 flood hall 3", "happen 2 flood hall 3"), ("happen 2 flood yard 3", "happen 2 flood yard 3"),
            ("waits ann", "1 5, 2 5"), ("waits bob", ""), ("next", "5"), ("account ann 2", "waits bell 0 0 0 0"),
            ("plan 4", ""), ("plan 5", "5 ann bell mail 1.0 2.0"),
            ("plan 60", "5 ann bell mail 1.0 2.0\n41 ann bell pager 0.1"),
            ("weather mail perhaps", "ok"), ("go 5", "try 5 ann bell mail 1.0 2.0\nend 5 perhaps\ngo 5"),
            ("waits ann", "1 15, 2 15"), ("account ann 1", "waits bell 0 0 0 1"),
            ("later 6 ann 1 500", "later 6 ann 1 500"), ("waits ann", "1 500, 2 15"), ("take 7 ann 2", "take 7 ann 2"),
            ("weather mail took", "ok"), ("back 8 1", "back 8 1\ntry 8 ann off mail 1.2\nend 8 took"),
            ("account ann 1", "over off 2 0 1 1"),
        )

    def test_falls_and_rises(self):
        self.talk(
            (MADE, "ok"), (WISH, WISH), ("weather pager fall", "ok"), ("happen 1 fire hall 0", "fallen"),
            ("book", WISH + "\nhappen 1 fire hall 0\ntry 1 ann bell pager 0.0"),
            ("judge\n", "right"), ("weather mail not", "ok"),
        )
        for row in ("go 5", "go 0", WISH, "back 5 99", "later 5 ann 0 4"):
            self.refused(Fallen, row)
        for row in ("go", "go five", "wish 5 ann zone", "happen 5 Fire hall 0", "weather dog fall", "x"):
            self.refused(NoRow, row)
        self.talk(
            ("rise", "end 1 perhaps"), ("go 5", "go 5"), ("happen 6 fire hall 0", "fallen"),
            ("book", WISH + "\nhappen 1 fire hall 0\ntry 1 ann bell pager 0.0\nend 1 perhaps\ngo 5\nhappen 6 fire hall 0\n"
                            "try 6 ann bell pager 1.0"),
            ("weather mail fall", "ok"), ("rise", "end 6 perhaps"), ("weather pager not", "ok"), ("go 11", "fallen"),
            ("rise", "end 11 perhaps"), ("weather mail took", "ok"), ("rise", ""),
            ("book", WISH + "\nhappen 1 fire hall 0\ntry 1 ann bell pager 0.0\nend 1 perhaps\ngo 5\nhappen 6 fire hall 0\n"
                            "try 6 ann bell pager 1.0\nend 6 perhaps\ntry 11 ann bell pager 0.1\nend 11 not\n"
                            "try 11 ann bell mail 0.1\nend 11 perhaps"),
            ("judge\n" + self.desk.say("book"), "right"),
        )

    def test_fallen_again_while_it_rises(self):
        self.talk(
            (MADE, "ok"), ("wish 0 ann zone 0 ; any : now by 3 pager bird mail sure", "wish 0 ann zone 0 ; any : now by 3 pager bird mail sure"),
            ("weather pager fall", "ok"), ("weather bird fall", "ok"), ("weather mail fall", "ok"),
            ("happen 1 fire hall 0", "fallen"), ("rise", "fallen"), ("rise", "fallen"), ("rise", "end 1 perhaps"), ("rise", ""),
            ("account ann 0", "waits bell 0 0 0 3"), ("waits ann", "0 11"),
        )

    def test_a_fallen_house_is_followed_by_a_new_one(self):
        self.talk((MADE, "ok"), (WISH, WISH), ("weather pager fall", "ok"), ("happen 1 fire hall 0", "fallen"),
                  ("house 5 pager 0 plain", "ok"), ("book", ""), ("wish 0 ann zone 0 ; any : now by 1 pager",
                                                                  "wish 0 ann zone 0 ; any : now by 1 pager"),
                  ("happen 0 fire hall 0", "happen 0 fire hall 0\ntry 0 ann bell pager 0.0\nend 0 took"))

    def test_the_weather_stays_behind_a_rise_but_not_behind_a_new_house(self):
        wish = "wish 0 ann zone 0 ; any : now by 1 mail"
        self.talk((MADE, "ok"), (wish, wish), ("weather mail not", "ok"), ("rise", ""),
                  ("happen 0 fire hall 0", "happen 0 fire hall 0\ntry 0 ann bell mail 0.0\nend 0 not"),
                  (MADE, "ok"), (wish, wish),
                  ("happen 0 fire hall 0", "happen 0 fire hall 0\ntry 0 ann bell mail 0.0\nend 0 took"))

    def test_the_judge(self):
        self.talk((MADE, "ok"), (WISH, WISH), ("happen 1 fire hall 0", "happen 1 fire hall 0\ntry 1 ann bell pager 0.0\nend 1 took"))
        book = self.say("book")
        self.talk(
            ("judge\n", "right"), ("judge\n" + book, "right"), ("judge\ngo 5", "right"), ("judge\ngo 5\ngo 4", "1"),
            ("judge\n" + book + "\n", "4"), ("judge\n\n", "0"), ("judge\ngo 5\ngo 4\ngo x", "2"), ("judge\n ", "0"),
            ("judge\nbook", "0"), ("judge\n" + book.replace("end 1 took", "end 2 took"), "3"),
            ("judge\nwish 0 ann zone 0 ; any : now by 1 dog", "0"), ("judge\ngo 5\nend 5 took", "1"),
        )
        self.assertEqual(self.say("book"), book)

    def test_the_same_roads_and_pause_judge(self):
        book = "wish 0 ann zone 0 ; any : now by 1 mail\nhappen 0 fire hall 0\ntry 0 ann bell mail 0.0\nend 0 not\ntry 10 ann bell mail 0.0"
        for row, answer in (("house 10 mail 0 plain", "right"), ("house 9 mail 0 plain", "4"), ("house 10 by 0 plain", "0")):
            self.talk((row, "ok"), ("judge\n" + book, answer))


class Refused(Talk):
    def test_all_but_house_while_there_is_none(self):
        for row in GOOD[1:] + ("", "x", "weather pager took"):
            self.refused(NoRow, row)
        self.refused(NoRoad, "house 5")
        self.refused(NoRow, "book")
        self.talk((MADE, "ok"), ("book", ""))

    def test_what_is_no_text(self):
        for thing in helper.THINGS + (["book"], ("go", 5), b"book"):
            if type(thing) is not str:
                self.refused(NoRow, thing)
        self.talk((MADE, "ok"))
        for thing in helper.THINGS + (["book"], ("go", 5), b"book"):
            if type(thing) is not str:
                self.refused(NoRow, thing)

    def test_what_is_no_row(self):
        self.talk((MADE, "ok"), (WISH, WISH), ("happen 1 flood hall 0", "happen 1 flood hall 0"), ("weather mail not", "ok"))
        before = all_told(self.desk)
        rows = [
            "", " ", "x", "houses", "Book", "BOOK", "book ", " book", "book 5", "book\n", "rise 5", "rise ", "rise\n", "next 5",
            "next ", "next\n", "none", "ok", "judge", "judge ", "judge go 5", "judge \n", " judge\n", "Judge\n", "judge\t\n",
            "weather", "weather mail", "weather dog not", "weather mail yes", "weather mail Not", "weather mail not ",
            "weather mail not not", "weather  mail not", "weather Mail not", "weather mail fallen", "weather mail not\n",
            "account", "account ann", "account ann -1", "account Ann 0", "account ann 00", "account ann 0 0", "account 0 ann",
            "account ann 0 ", "account ann x", "account  ann 0", "account ann 0\n", "account ann", "account ann -0",
            "waits", "waits Ann", "waits ann 0", "waits ", "waits ann ", "waits 5", "waits ann\n",
            "plan", "plan ", "plan x", "plan 05", "plan 5 5", "plan 5 ", "plan -0", "plan 1.5", "plan 5\n",
            "try 5 ann bell mail 0.0", "end 5 took", "fall", "go 5\ngo 6", "go 5\n", "\ngo 5", WISH + "\n" + WISH, WISH + "\n",
            "house", "house ", "house x", "house 05", "house 5 ", "house 5 mail", "house 5 mail 0", "house 5 mail 0 know",
            "house 5 mail 0 Plain", "house 5 Mail 0 plain", "house 5 mail 00 plain", "house 5 mail 0 plain ", "house  5 mail 0 plain",
            "house 5 mail 0 plain by", "house 5 mail 0 plain by 0", "house mail 0 plain", "house 5 mail x plain", "house 5\n",
            "house 5 mail 0 plain by 0 knows x", "house 0 mail -1 plain by", "house 5 abcdefghi 0 plain", "house 5 mail 0 plain\n",
            "house 5 mail 0 true", "house 1.5 mail 0 plain", "house -0 mail 0 plain",
        ] + [bad for bad in test_texts.bad_lines() if bad not in ("book", "rise", "house 5")]
        for row in rows:
            self.refused(NoRow, row)
        self.assertEqual(all_told(self.desk), before)
        self.talk(("go 5", "try 5 ann bell mail 0.0\nend 5 not\ngo 5"))

    def test_as_the_house_refuses(self):
        self.talk((MADE, "ok"), (WISH, WISH), ("happen 2 flood hall 0", "happen 2 flood hall 0"))
        before = all_told(self.desk)
        self.assertEqual(self.refused(Backward, "go 1").now, 2)
        self.assertEqual(self.refused(Backward, "wish 1 ann zone 0 ; any : now by 1 dog").now, 2)
        self.assertEqual(self.refused(NoRoad, "wish 500 ann zone 0 ; any : now by 2 mail dog").road, "dog")
        self.refused(NoNumber, "take 500 ann 1")
        self.refused(NoNumber, "later 500 ann 1 5")
        self.refused(NoNumber, "back 500 1")
        self.refused(NoTime, "later 500 ann 0 500")
        self.assertEqual(self.refused(Backward, "plan 1").now, 2)
        self.assertEqual(all_told(self.desk), before)

    def test_houses_that_are_refused(self):
        self.talk((MADE, "ok"), (WISH, WISH), ("weather mail not", "ok"), ("happen 2 flood hall 0", "happen 2 flood hall 0"))
        before = all_told(self.desk)
        for row in ("house 5", "house 0", "house -5", "house 5 mail 0 plain mail 1 knows", "house 5 mail -1 plain",
                    "house 0 mail -1 plain", "house 0 mail 0 plain mail 0 plain"):
            self.assertIsNone(self.refused(NoRoad, row).road)
        for row in ("house 0 mail 0 plain", "house -1 mail 0 plain by 7 knows"):
            self.refused(NoTime, row)
        self.assertEqual(all_told(self.desk), before)
        self.talk(("weather bird took", "ok"), ("go 5", "try 5 ann bell mail 0.0\nend 5 not\ngo 5"))

    def test_each_refused_word_at_each_place(self):
        self.talk((MADE, "ok"), (WISH, WISH), ("happen 2 flood hall 0", "happen 2 flood hall 0"))
        before = all_told(self.desk)
        for row in ("weather mail not", "account ann 0", "waits ann", "plan 5", MADE):
            words = row.split(" ")
            for place in range(len(words)):
                for bad in ("", "Ann", "x y", "1.0", "00", "~"):
                    self.refused(NoRow, " ".join(words[:place] + [bad] + words[place + 1:]))
        self.assertEqual(all_told(self.desk), before)


class AsAHouse(Talk):
    def setUp(self):
        self.desk = Desk()
        self.weather = {}

    def carry(self, road, hand, word, stamps, moment):
        if self.weather[road] == "fall":
            raise OSError()
        return {"took": True, "not": False, "perhaps": None}[self.weather[road]]

    def house_put(self, function, *arguments):
        try:
            return show_book(function(*arguments))
        except OSError:
            return "fallen"

    def test_the_same_rows(self):
        falls = 0
        for seed in range(3000, 3060):
            chance = random.Random(seed)
            scene = helper.Scene(chance, 30)
            roads = scene.made_roads()
            made = ["{} {} {}".format(name, slow, "knows" if knows else "plain") for name, slow, knows in scene.roads]
            self.talk(("house {} {}".format(scene.pause, " ".join(made)), "ok"))
            self.weather = {road[0]: "took" for road in scene.roads}
            house = House(roads, scene.pause, self.carry)
            rows = list(scene.rows)
            while rows:
                for turn in range(chance.choice((0, 1, 2))):
                    road = chance.choice(scene.roads)[0]
                    self.weather[road] = chance.choice(("took", "took", "not", "perhaps", "perhaps", "fall"))
                    self.talk(("weather {} {}".format(road, self.weather[road]), "ok"))
                answer = self.house_put(house.put, rows[0])
                self.talk((show_book(rows[:1]), answer), ("book", show_book(house.book())))
                while answer == "fallen":
                    falls += 1
                    self.refused(Fallen, show_book(rows[:1]))
                    if chance.random() < 0.5:
                        self.weather = {name: "took" for name in self.weather}
                        for name in self.weather:
                            self.talk(("weather {} took".format(name), "ok"))
                    house = House(roads, scene.pause, self.carry, house.book())
                    answer = self.house_put(house.go_on)
                    self.talk(("rise", answer), ("book", show_book(house.book())))
                if chance.random() < 0.1:
                    house = House(roads, scene.pause, self.carry, house.book())
                    self.talk(("rise", self.house_put(house.go_on)))
                self.assert_the_same_told(house, scene, house.clock())
                # A row that isn't in the book behind a fall is put again.
                rows = scene.rows[len([line for line in house.book() if line[0] not in ("try", "end")]):]
            self.assert_the_same_judged(roads, scene, house.book(), chance)
        self.assertGreater(falls, 50)

    def assert_the_same_told(self, house, scene, moment):
        for hand in helper.HANDS:
            pairs = ["{} {}".format(number, due) for number, due in house.waiting(hand)]
            self.talk(("waits " + hand, ", ".join(pairs)))
            for number in range(scene.happened + 1):
                told = house.account(hand, number)
                self.talk(("account {} {}".format(hand, number), "none" if told is None else " ".join(map(str, told))))
        self.talk(("next", str(house.next_due()).lower()))
        planned = ["{} {} {} {} {}".format(*attempt[:4], stamps_text(attempt[4])) for attempt in house.plan(moment + 900)]
        self.talk(("plan {}".format(moment + 900), "\n".join(planned)))

    def assert_the_same_judged(self, roads, scene, book, chance):
        for turn in range(5):
            lines = list(book)
            lines.insert(chance.randrange(len(lines)), chance.choice(lines))
            told = judge(roads, scene.pause, lines)
            self.talk(("judge\n" + show_book(lines), "right" if told is None else str(told)))
        self.talk(("judge\n" + show_book(book), "right"))

    def test_two_desks_are_apart(self):
        other = Desk()
        self.talk((MADE, "ok"))
        self.assert_refused(NoRow, other.say, "book")
        other.say("house 5 mail 0 plain")
        self.talk((WISH, WISH), ("weather mail not", "ok"))
        self.assertEqual(other.say("book"), "")


if __name__ == "__main__":
    unittest.main()
