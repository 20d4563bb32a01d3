"""Whole books against a plain reckoning, gone on from, with goes between, moved by days (points 24 to 36, 38, 39)."""

import random
import unittest

import helper
from bellsaway.errors import BellError, NoNumber
from bellsaway.house import House
from bellsaway.judging import judge

ENDS = ("took", "not", "perhaps")


def scenes(seeds, counts, roads=None):
    for seed in seeds:
        chance = random.Random(seed)
        yield seed, chance, helper.Scene(chance, chance.choice(counts), roads)


def made(scene, lines=None):
    return House(scene.made_roads(), scene.pause, scene.answer, lines)


def book_of(scene):
    house = made(scene)
    for row in scene.rows:
        house.put(row)
    return house.book()


def is_try(line):
    return line[0] == "try"


def rows_behind(scene, lines):
    return scene.rows[len([line for line in lines if line[0] not in ("try", "end")]):]


class AsReckoned(helper.Case):
    def test_books(self):
        seen = set()
        for seed, chance, scene in scenes(range(200), (5, 15, 40)):
            house = made(scene)
            plain = scene.plain()
            for row in scene.rows:
                self.assertEqual(house.put(row), plain.put(row, scene.answer), (seed, row))
            self.assertEqual(house.book(), plain.book)
            seen |= {(line[3], len(line[5]) > 1, line[5][0][1] > 0) for line in plain.book if is_try(line)}
        # All words and rounds, alone and gathered; what was raised or taken back is never gathered.
        told = {("bell", False, False), ("bell", False, True), ("bell", True, False), ("off", False, True)}
        self.assertEqual(seen, told)

    def test_carriers_of_one_mind(self):
        for answer in (True, False, None):
            for seed, chance, scene in scenes(range(300, 325), (10, 25)):
                scene.answer = lambda *parts: answer
                house = made(scene)
                plain = scene.plain()
                for row in scene.rows:
                    self.assertEqual(house.put(row), plain.put(row, scene.answer), (seed, row))

    def test_roads_all_alike(self):
        for slow in (0, 45):
            for knows in (False, True):
                roads = [(name, slow, knows) for name in ("mail", "pager", "by")]
                for seed, chance, scene in scenes(range(400, 420), (10, 25), roads):
                    house = made(scene)
                    plain = scene.plain()
                    for row in scene.rows:
                        self.assertEqual(house.put(row), plain.put(row, scene.answer), (seed, row))

    def test_the_same_rows_make_the_same_book(self):
        for seed, chance, scene in scenes(range(20), (20,)):
            self.assertEqual(book_of(scene), book_of(scene))


class GoneOn(helper.Case):
    def test_cut_behind_any_line_but_a_try(self):
        for seed, chance, scene in scenes(range(500, 530), (10, 25)):
            book = book_of(scene)
            for count in range(len(book) + 1):
                if count and is_try(book[count - 1]):
                    continue
                house = made(scene, book[:count])
                self.assertEqual(house.book(), book[:count])
                self.assertEqual(house.clock(), book[count - 1][1] if count else None)
                rows = rows_behind(scene, book[:count])
                if not rows or chance.random() < 0.7:
                    told = house.go_on()
                    self.assertEqual(told, book[count:count + len(told)])
                    self.assertEqual(house.go_on(), [])
                for row in rows:
                    house.put(row)
                self.assertEqual(house.book(), book, (seed, count))

    def test_what_is_told_by_going_on_is_what_was_due_at_that_moment(self):
        for seed, chance, scene in scenes(range(530, 560), (10, 25)):
            book = book_of(scene)
            for count in range(1, len(book) + 1):
                if is_try(book[count - 1]):
                    continue
                end = count
                while end < len(book) and book[end][0] in ("try", "end") and book[end][1] == book[count - 1][1]:
                    end += 1
                self.assertEqual(made(scene, book[:count]).go_on(), book[count:end], (seed, count))

    def test_cut_behind_a_try(self):
        for seed, chance, scene in scenes(range(560, 590), (10, 25)):
            book = book_of(scene)
            for count in range(1, len(book) + 1):
                if not is_try(book[count - 1]):
                    continue
                plain = scene.plain()
                self.assertTrue(all([plain.follow(line) for line in book[:count]]))
                house = made(scene, book[:count])
                self.assertEqual(house.clock(), book[count - 1][1])
                rows = rows_behind(scene, book[:count])
                if not rows or chance.random() < 0.5:
                    told = house.go_on()
                    self.assertEqual(told, plain.go_on(scene.answer))
                    self.assertEqual(told[0], ("end", book[count - 1][1], "perhaps"))
                    self.assertEqual(house.go_on(), [])
                for row in rows:
                    self.assertEqual(house.put(row), plain.put(row, scene.answer), (seed, count))
                self.assertEqual(house.book(), plain.book)
                if book[count:count + 1] == [("end", book[count - 1][1], "perhaps")]:
                    self.assertEqual(house.book(), book)

    def test_a_refused_row_leaves_the_letter_as_it_is(self):
        for seed, chance, scene in scenes(range(590, 600), (15,)):
            book = book_of(scene)
            for count in range(1, len(book)):
                if is_try(book[count - 1]) or is_try(book[count]):
                    house = made(scene, book[:count])
                    self.assert_refused(NoNumber, house.put, ("back", book[count - 1][1], 500))
                    self.assertRaises(BellError, house.put, ("go", book[count - 1][1] - 1))
                    self.assertEqual(house.book(), book[:count])
                    self.assertEqual(house.go_on(), made(scene, book[:count]).go_on())

    def test_falls_again_and_again(self):
        all_falls = 0
        for seed, chance, scene in scenes(range(600, 640), (10, 25)):
            plain = scene.plain()

            def carry(*parts):
                if chance.random() < 0.3:
                    raise OSError()
                return scene.answer(*parts)

            house = House(scene.made_roads(), scene.pause, carry)
            falls = 0
            while rows_behind(scene, house.book()):
                try:
                    if chance.random() < 0.5:
                        house.go_on()
                    # A row that stands in the book was put; else it is put again.
                    house.put(rows_behind(scene, house.book())[0])
                except OSError:
                    falls += 1
                    house = House(scene.made_roads(), scene.pause, carry, house.book())
            book = house.book()
            self.assertIsNone(judge(scene.made_roads(), scene.pause, book))
            self.assertTrue(all([plain.follow(line) for line in book]))
            self.assertEqual([line for line in book if line[0] not in ("try", "end")], scene.rows)
            all_falls += falls
        self.assertGreater(all_falls, 100)

    def test_a_house_of_its_own_book_tells_the_same(self):
        for seed, chance, scene in scenes(range(640, 660), (25,)):
            house = made(scene)
            for row in scene.rows:
                house.put(row)
                other = made(scene, house.book())
                self.assertEqual((other.book(), other.clock(), other.next_due()),
                                 (house.book(), house.clock(), house.next_due()))
                for hand in helper.HANDS:
                    self.assertEqual(other.waiting(hand), house.waiting(hand))
                    self.assertEqual(other.letters(hand), house.letters(hand))
                    for number in range(scene.happened):
                        self.assertEqual(other.account(hand, number), house.account(hand, number))
                self.assertEqual(other.plan(row[1] + 3000), house.plan(row[1] + 3000))


class Moved(helper.Case):
    def test_goes_between_change_nothing_but_their_own_lines(self):
        for seed, chance, scene in scenes(range(700, 760), (10, 25)):
            book = book_of(scene)
            house = made(scene)
            put = []
            for number, row in enumerate(scene.rows):
                last = scene.rows[number - 1][1] if number else row[1] - 50
                for moment in sorted(chance.randint(last, row[1]) for turn in range(chance.choice((0, 1, 5)))):
                    put.append(("go", moment))
                    house.put(("go", moment))
                house.put(row)
            for row in put:
                self.assertIn(row, house.book())
            left = house.book()
            for row in scene.rows:
                if row[0] == "go":
                    put.append(row)
            self.assertEqual([line for line in left if line[0] != "go"], [line for line in book if line[0] != "go"])
            self.assertEqual(len([line for line in left if line[0] == "go"]), len(put))

    def test_moved_by_whole_days(self):
        for seed, chance, scene in scenes(range(760, 800), (10, 25)):
            book = book_of(scene)
            by = 1440 * chance.choice((-3000, -1, 1, 7, 10 ** 6))

            def answer(road, hand, word, stamps, moment):
                return scene.answer(road, hand, word, stamps, moment - by)

            house = House(scene.made_roads(), scene.pause, answer)
            for row in scene.rows:
                house.put(self.moved(row, by))
            self.assertEqual(house.book(), [self.moved(line, by) for line in book])

    def moved(self, line, by):
        if line[0] == "later":
            return line[:1] + (line[1] + by,) + line[2:4] + (line[4] + by,)
        return line[:1] + (line[1] + by,) + line[2:]

    def test_moved_by_the_zones(self):
        """All clocks put ahead and all moments back by as many minutes show the same."""
        roads = [("mail", 7, True), ("pager", 0, False)]
        for by in (-61, 1, 700):
            for answer in (True, False, None):
                books = []
                for zone in (0, by):
                    house = helper.Scene(random.Random(1), 0, roads)
                    house = House(house.made_roads(), 10, lambda *parts: answer)
                    text = "zone {} ; quiet 600 900 3 ; kind fire : hour 5 by 2 mail pager raise 50 3 ; any : day 480 by 1 mail"
                    house.put(("wish", 0 - zone, "ann", text.format(zone)))
                    for number, kind in enumerate(("fire", "flood", "fire", "fire", "flood")):
                        house.put(("happen", 300 * number - zone, kind, "hall", number))
                    house.put(("go", 9000 - zone))
                    books.append([self.moved(line, zone) for line in house.book() if line[0] != "wish"])
                self.assertEqual(books[0], books[1])


if __name__ == "__main__":
    unittest.main()
