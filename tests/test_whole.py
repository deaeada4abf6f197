"""The whole: [1] to [13] where one part of the program is held against another."""

import unittest

from plainly import chance, names_of, some_hall
from sleepmany.back import heaps_back, histories, number_of
from sleepmany.beats import beat, counts_of, ups_of
from sleepmany.books import Book, plain, slower_book
from sleepmany.desk import Desk
from sleepmany.elders import elder, elders
from sleepmany.hearing import can_be_heard, heard_heap, unlike_at
from sleepmany.house import House
from sleepmany.leaps import far, given_over, up_at
from sleepmany.rests import is_at_rest, rest_from, round_of
from sleepmany.standings import groups_of, heap_of, slower_standing, standing_of
from sleepmany.texts import read_row, read_standing, show_row, show_standing
from sleepmany.watchers import are_pairs, parted_alone, told_apart
from sleepmany.wishes import fewest, is_fair, meets, prices

GREAT = 10 ** 40


class ExampleTest(unittest.TestCase):
    """[24], told at a desk."""

    def test_the_example(self):
        desk = Desk()
        desk.say("house 1 2 3 4")
        for row in ["come 0 a 1", "come 0 b 1", "come 0 c 2", "come 0 d 2"]:
            desk.say(row)
        self.assertEqual(desk.say("heard 0 4"), "2 2 2 2")
        self.assertEqual(desk.say("rest 0"), "0")
        desk.say("call c")
        self.assertEqual(desk.say("heard 0 9"), "3 1 1 4 0 0 0 4 0")
        desk.say("wait 1000000000000000000000000000000")
        self.assertEqual(desk.say("hall 0"), "a:4 b:4 c:4 d:4")


class HouseAndLeapsTest(unittest.TestCase):
    def test_waits_in_parts_are_one_wait(self):
        numbers = chance(1)
        for again in range(20):
            lengths, standing = some_hall(numbers, numbers.randint(0, 12), 10 ** 9, 10 ** 18)
            house = House([Book(lengths)])
            for name, rest in standing:
                house.come(0, name, rest)
            gone = 0
            for beats in [0, 1, 7, 10 ** 9, 10 ** 18, 10 ** 30, numbers.randint(0, 10 ** 30)]:
                house.wait(beats)
                gone += beats
                self.assertEqual(house.standing(0), far(Book(lengths), standing, gone))
                given, slept, brought, taken = house.ledger(0)
                self.assertEqual(given, given_over(Book(lengths), standing, gone))
                self.assertEqual(slept, len(standing) * gone)
                self.assertEqual(brought, sum(rest for name, rest in standing))
                self.assertEqual(taken, 0)
            for moment in [0, 1, 5, gone // 2, gone]:
                self.assertEqual(house.was(0, moment), far(Book(lengths), standing, moment))

    def test_strokes_are_calls_in_a_house(self):
        numbers = chance(2)
        for again in range(30):
            lengths, standing = some_hall(numbers, 4, 4, 6)
            row = [numbers.sample(names_of(4), numbers.randint(0, 2)) for stroke in range(10)]
            house = House([Book(lengths)])
            for name, rest in standing:
                house.come(0, name, rest)
            ups = []
            for stroke in row:
                for name in stroke:
                    house.call(name)
                ups.append([name for name, rest in house.standing(0) if rest == 1])
                house.wait(1)
            self.assertEqual(ups_of(Book(lengths), standing, row), ups)


class HeardAndBackTest(unittest.TestCase):
    """[10] and [11]: one thing, told forward and back."""

    def test_there_and_back(self):
        numbers = chance(11)
        for again in range(60):
            lengths, standing = some_hall(numbers, numbers.randint(0, 8), 6, 20)
            book = Book(lengths)
            beats = numbers.randint(0, 30)
            counts = counts_of(book, heap_of(standing), beats)
            self.assertTrue(can_be_heard(book, counts, len(standing)))
            last = far(book, standing, beats)
            heaps = heaps_back(book, heap_of(last), counts)
            self.assertIsNone(unlike_at(book, heaps[0], heap_of(standing)))
            heard, left = heard_heap(book, counts, len(standing))
            self.assertEqual(heaps[0][:len(heard)], heard)
            rows = [far(book, standing, gone) for gone in range(beats + 1)]
            told, number = number_of(book, rows)
            self.assertEqual(told, counts)
            self.assertLess(number, histories(book, last, counts))

    def test_elders_lead_there(self):
        numbers = chance(72)
        found = 0
        for again in range(30):
            lengths, standing = some_hall(numbers, numbers.randint(1, 5), 4, 4)
            book = Book(lengths)
            for beats in [1, 4]:
                many = elders(book, standing, beats, 9)
                found += many
                told = [elder(book, standing, beats, 9, number) for number in range(many)]
                self.assertEqual(len(set(told)), many)
                for one in told:
                    self.assertEqual(far(book, one, beats), standing)
                    self.assertLessEqual(max(heap_of(one)), 9)
        self.assertGreater(found, 50)


class ToldAndShownTest(unittest.TestCase):
    """[12]: each answer with what shows it."""

    def test_two_halls(self):
        numbers = chance(12)
        for again in range(60):
            lengths, first = some_hall(numbers, 3, 3, 3)
            other, second = some_hall(numbers, 3, 3, 3)
            strokes = [[], ["aa"], ["ab", "ac"]]
            for heard in [False, True]:
                word, what = told_apart(Book(lengths), first, Book(other), second, strokes, heard=heard, most=400)
                if word == "alike":
                    self.assertIs(are_pairs(Book(lengths), first, Book(other), second, strokes, what, heard=heard), True)
                else:
                    ups = [ups_of(Book(lengths), first, what), ups_of(Book(other), second, what)]
                    if heard:
                        ups = [[len(up) for up in row] for row in ups]
                    self.assertEqual(ups[0][:-1], ups[1][:-1])
                    self.assertNotEqual(ups[0][-1], ups[1][-1])

    def test_wishes(self):
        numbers = chance(13)
        for again in range(60):
            lengths, standing = some_hall(numbers, 3, 3, 3)
            strokes = [[], ["aa"], ["ab", "ac"]]
            wish = numbers.choice([("groups", 1), ("groups", 3), ("together", ["aa", "ac"])])
            book = Book(lengths)
            told = prices(book, standing, strokes, wish, most=400)
            self.assertIs(is_fair(book, strokes, wish, told), True)
            word, what = fewest(book, standing, strokes, wish, most=400)
            if word == "never":
                self.assertEqual(what, told)
                self.assertEqual({price for there, price in told}, {None})
            else:
                house = House([book])
                for name, rest in standing:
                    house.come(0, name, rest)
                calls = 0
                for stroke in what:
                    for name in stroke:
                        house.call(name)
                        calls += 1
                    house.wait(1)
                self.assertIs(meets(house.standing(0), wish), True)
                self.assertEqual(calls, told[0][1])

    def test_with_the_empty_stroke_alone_it_is_as_without_hands(self):
        numbers = chance(14)
        for again in range(80):
            lengths, standing = some_hall(numbers, numbers.randint(1, 3), 4, 4)
            other = lengths[:-1] + [numbers.randint(1, 4)]
            beat_told = parted_alone(Book(lengths), Book(other), standing)
            word, what = told_apart(Book(lengths), standing, Book(other), standing, [[]], most=400)
            self.assertEqual(word, "alike" if beat_told is None else "parted")
            if word == "parted":
                self.assertEqual(len(what), beat_told)
            lead, length = round_of(Book(lengths), standing)
            self.assertEqual(len(prices(Book(lengths), standing, [[]], ("groups", 1), most=400)), lead + length)


class GreatOnesTest(unittest.TestCase):
    """[2]: told standings, and others with rests of any size, are handed in again."""

    def test_great_rests(self):
        book = Book([10 ** 9, 7, 5])
        standing = (("a", GREAT), ("b", GREAT), ("c", 3 * GREAT))
        self.assertEqual(beat(book, standing)[0], (("a", GREAT - 1), ("b", GREAT - 1), ("c", 3 * GREAT - 1)))
        self.assertEqual(far(book, standing, GREAT), (("a", 7), ("b", 7), ("c", 2 * GREAT)))
        self.assertEqual(heaps_back(book, heap_of(standing), [0, 0])[0], (GREAT + 2, GREAT + 2, 3 * GREAT + 2))
        self.assertEqual(histories(book, standing, [0] * 61), 1)
        self.assertEqual(parted_alone(book, Book([10 ** 9, 6, 5]), standing), GREAT + 6)
        self.assertEqual(meets(standing, ("together", ["a", "b"])), True)
        self.assertEqual(prices(book, standing, [["a", "b", "c"]], ("groups", 1)), [(standing, 3), (
            (("a", 5), ("b", 5), ("c", 5)), 0)])
        self.assertEqual(read_standing(show_standing(standing)), standing)
        self.assertEqual(elders(book, standing, 40, 60), 0)
        late = rest_from(book, standing)
        self.assertIs(is_at_rest(book, far(book, standing, late)), True)
        self.assertEqual(up_at(book, standing, GREAT), ["a", "b"])

    def test_told_rows_are_written_and_read(self):
        word, row = told_apart(Book([3]), (("a", 9),), Book([4]), (("a", 9),), [["a"], []])
        self.assertEqual(read_row(show_row(row)), row)
        house = House([plain(3)])
        house.come(0, "b", 2)
        house.come(0, "a", 10 ** 18)
        self.assertEqual(standing_of(list(house.standing(0))), house.standing(0))
        self.assertEqual(groups_of(house.standing(0)), [(2, ("b",)), (10 ** 18, ("a",))])


class SlowerTest(unittest.TestCase):
    """[13], in a house and between two books."""

    def test_the_slower_house(self):
        numbers = chance(15)
        for again in range(20):
            lengths, standing = some_hall(numbers, 5, 9, 20)
            by = numbers.choice([2, 3, 1000])
            fast, slow = House([Book(lengths)]), House([slower_book(Book(lengths), by)])
            for name, rest in standing:
                fast.come(0, name, rest)
                slow.come(0, name, rest * by)
            for beats in [1, 4, 10 ** 20]:
                fast.wait(beats)
                slow.wait(beats * by)
                self.assertEqual(slow.standing(0), slower_standing(fast.standing(0), by))

    def test_two_slower_books(self):
        numbers = chance(16)
        for again in range(60):
            lengths, standing = some_hall(numbers, 4, 5, 9)
            other = lengths[:-1] + [numbers.randint(1, 5)]
            fast = parted_alone(Book(lengths), Book(other), standing)
            slow = parted_alone(slower_book(Book(lengths), 7), slower_book(Book(other), 7), slower_standing(standing, 7))
            self.assertEqual(slow, None if fast is None else 7 * fast)


if __name__ == "__main__":
    unittest.main()
