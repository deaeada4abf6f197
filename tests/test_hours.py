"""Hours: [54] to [57], with [3], [4], [7] and [8] for them."""

import itertools
import math
import unittest

from plainly import NO_NUMBERS, chance, names_of, spoil
from sleepmany.books import Book, plain
from sleepmany.errors import TooGreat, TooMany
from sleepmany.hours import are_hours, are_rows, hours_of, plain_sizes, sizes_of
from sleepmany.rests import is_at_rest
from sleepmany.standings import standing_of

PRIMES = [2, 3, 5, 7, 11, 13, 17, 19, 23, 29]


def lengths_of(book, sizes):
    return [book.sleep(size) for size in sizes]


def meet(one, hour, other, its):
    return (hour - its) % math.gcd(one, other) == 0


def rest_together(lengths, hours):
    places = range(len(lengths))
    return not any(meet(lengths[i], hours[i], lengths[j], hours[j]) for i, j in itertools.combinations(places, 2))


def search(lengths):
    """The search of [55] by going down place by place: what is told, and how many hours were tried."""
    rows = []
    tried = 0

    def go(hours):
        nonlocal tried
        at = len(hours)
        if at == len(lengths):
            return hours
        others = [math.gcd(lengths[at], other) for place, other in enumerate(lengths) if place != at]
        for hour in range(1 if at == 0 else math.lcm(*others)):
            tried += 1
            met = [place for place in range(at) if meet(lengths[at], hour, lengths[place], hours[place])]
            if met:
                rows.append((tuple(hours + [hour]), met[0]))
                continue
            found = go(hours + [hour])
            if found is not None:
                return found
        return None

    found = go([])
    return (("never", rows) if found is None else ("rest", found)), tried


def partitions(many, least=1):
    if many == 0:
        return [[]]
    return [[size] + more for size in range(least, many + 1) for more in partitions(many - size, size)]


def cases():
    """Books and sizes, of one place to eight, of which some rest together and some don't."""
    yield plain(4), [2, 2]
    yield plain(31), [6, 10, 15]
    yield plain(31), [15, 10, 6]
    yield plain(31), [10, 6, 15]
    yield plain(40), [5, 5, 5, 5, 5, 5]
    yield plain(40), [40]
    yield plain(40), [4, 6, 6]
    yield plain(40), [4, 4, 6, 6, 12]
    yield plain(40), [2, 4, 8, 16]
    yield plain(40), [16, 8, 4, 2]
    yield plain(40), [2, 4, 6, 8]
    yield plain(40), [6, 4, 10]
    yield Book([8] * 8), [1] * 8
    yield Book([5] * 8), [1] * 6
    yield Book([6, 10, 15]), [1, 2]
    yield Book([12, 18, 30, 20, 1]), [1, 1, 2, 1]
    numbers = chance(54)
    for many in [1, 2, 2, 3, 3, 3, 4, 4, 4, 5, 6, 8]:
        for lengths in [range(1, 9), [2, 4, 6, 8, 12], [6, 10, 15, 30, 12], [4, 6, 9, 12], [12, 8]]:
            book = Book([numbers.choice(list(lengths)) for again in range(40)])
            yield book, [numbers.choice([1, 2, 3, 4, 5]) for again in range(many)]


def never_cases():
    for book, sizes in cases():
        told, tried = search(lengths_of(book, sizes))
        if told[0] == "never" and tried <= 400:
            yield book, sizes, told[1]


class AreHoursTest(unittest.TestCase):
    def test_small_ones_against_all_lists(self):
        rests = 0
        for book, sizes in cases():
            lengths = lengths_of(book, sizes)
            if math.prod(lengths) <= 4000:
                for hours in itertools.product(*[range(-1, length + 1) for length in lengths]):
                    within = all(0 <= hour < length for hour, length in zip(hours, lengths))
                    meant = within and rest_together(lengths, hours)
                    rests += meant
                    if are_hours(book, sizes, list(hours)) is not meant:
                        self.fail((book, sizes, hours, meant))
        self.assertGreater(rests, 100)

    def test_one_place(self):
        for hour in range(7):
            self.assertIs(are_hours(plain(7), [7], [hour]), True)
        self.assertIs(are_hours(plain(7), [7], [7]), False)
        self.assertIs(are_hours(plain(7), [7], [-1]), False)
        self.assertIs(are_hours(Book([10 ** 9]), [1], [10 ** 9 - 1]), True)

    def test_eight_places(self):
        book = Book([8] * 8)
        self.assertIs(are_hours(book, [1] * 8, [3, 1, 4, 0, 5, 2, 6, 7]), True)
        self.assertIs(are_hours(book, [1] * 8, [3, 1, 4, 0, 5, 2, 6, 3]), False)
        self.assertIs(are_hours(book, [1] * 8, [3, 1, 4, 0, 5, 2, 6, 8]), False)

    def test_whatever_is_handed_in(self):
        good = [0, 1, 2]
        self.assertIs(are_hours(plain(31), [6, 10, 15], good), True)
        for thing in NO_NUMBERS + [0, (0, 1, 2), [0, 1], [0, 1, 2, 3], {0: 0, 1: 1, 2: 2}, "012", [[0, 1, 2]], b"012"]:
            with self.subTest(thing=thing):
                self.assertIs(are_hours(plain(31), [6, 10, 15], thing), False)
        for at in range(3):
            for part in NO_NUMBERS + [-1, 15, 10 ** 40]:
                with self.subTest(at=at, part=part):
                    self.assertIs(are_hours(plain(31), [6, 10, 15], good[:at] + [part] + good[at + 1:]), False)
        self.assertEqual(good, [0, 1, 2])


class HoursOfTest(unittest.TestCase):
    def test_as_the_search_is_told(self):
        answers = []
        for book, sizes in cases():
            meant, tried = search(lengths_of(book, sizes))
            with self.subTest(book=book, sizes=sizes):
                ahead = list(sizes)
                self.assertEqual(hours_of(book, sizes, most=max(tried, 400)), meant)
                self.assertEqual(hours_of(book, sizes, most=tried), meant)
                self.assertEqual(sizes, ahead)
                if tried > 1:
                    with self.assertRaises(TooMany) as caught:
                        hours_of(book, sizes, most=tried - 1)
                    self.assertEqual(caught.exception.most, tried - 1)
                answers.append(meant[0])
        self.assertGreater(answers.count("rest"), 15)
        self.assertGreater(answers.count("never"), 15)

    def test_four_hundred_where_nothing_is_said(self):
        met = 0
        for book, sizes in cases():
            meant, tried = search(lengths_of(book, sizes))
            with self.subTest(book=book, sizes=sizes):
                if tried <= 400:
                    self.assertEqual(hours_of(book, sizes), meant)
                else:
                    met += 1
                    with self.assertRaises(TooMany) as caught:
                        hours_of(book, sizes)
                    self.assertEqual(caught.exception.most, 400)
        self.assertGreater(met, 0)

    def test_told_ones(self):
        self.assertEqual(hours_of(plain(40), [40], most=1), ("rest", [0]))
        self.assertEqual(hours_of(plain(4), [2, 2]), ("rest", [0, 1]))
        self.assertEqual(hours_of(plain(31), [6, 10, 15]), ("rest", [0, 1, 2]))
        self.assertEqual(hours_of(plain(3), [1, 2]), ("never", [((0, 0), 0)]))
        self.assertEqual(hours_of(plain(5), [2, 3]), ("never", [((0, 0), 0)]))
        self.assertEqual(hours_of(plain(6), [2, 2, 2]), (
            "never", [((0, 0), 0), ((0, 1, 0), 0), ((0, 1, 1), 1)],
        ))

    def test_the_hours_of_a_place_go_by_the_other_places_behind_too(self):
        # Of the length 6 the place ahead has 2, the one behind 3: six hours are tried.
        told = hours_of(Book([2, 6, 3] + [1] * 3), [1, 2, 3])
        self.assertEqual(told[0], "never")
        self.assertEqual([hours for hours, at in told[1] if len(hours) == 2], [(0, 0), (0, 2), (0, 4)])

    def test_very_long_lengths(self):
        book = Book([10 ** 9, 10 ** 9 - 1, 1])
        self.assertEqual(hours_of(book, [1, 1]), ("rest", [0, 1]))
        self.assertEqual(hours_of(book, [1, 2]), ("never", [((0, 0), 0)]))
        with self.assertRaises(TooMany):
            hours_of(Book([10 ** 9, 2] + [1] * 4), [2, 1, 1, 2])

    def test_those_found_rest_together(self):
        for book, sizes in cases():
            told, tried = search(lengths_of(book, sizes))
            if told[0] == "rest" and sum(sizes) <= 40:
                with self.subTest(book=book, sizes=sizes):
                    hours = hours_of(book, sizes, most=tried)[1]
                    self.assertIs(are_hours(book, sizes, hours), True)
                    names = names_of(sum(sizes))
                    pairs = []
                    for size, hour in zip(sizes, hours):
                        length = book.sleep(size)
                        pairs += [(names.pop(), hour or length) for again in range(size)]
                    self.assertIs(is_at_rest(book, standing_of(pairs)), True)

    def test_told_lists_are_new(self):
        for sizes in [[2, 2], [2, 2, 2]]:
            told = hours_of(plain(6), sizes)
            meant = search(sizes)[0]
            spoil(told)
            self.assertEqual(hours_of(plain(6), sizes), meant)


class AreRowsTest(unittest.TestCase):
    def test_the_rows_told_in_any_order(self):
        numbers = chance(56)
        many = 0
        for book, sizes, rows in never_cases():
            shuffled = list(rows)
            numbers.shuffle(shuffled)
            for order in [rows, rows[::-1], shuffled]:
                ahead = list(order)
                with self.subTest(book=book, sizes=sizes, order=order):
                    self.assertIs(are_rows(book, sizes, order), True)
                    self.assertEqual(order, ahead)
            many += 1
        self.assertGreater(many, 15)

    def test_one_left_out_twice_and_one_more(self):
        for book, sizes, rows in never_cases():
            lengths = lengths_of(book, sizes)
            for at in {0, len(rows) // 2, len(rows) - 1}:
                with self.subTest(book=book, sizes=sizes, at=at):
                    self.assertIs(are_rows(book, sizes, rows[:at] + rows[at + 1:]), False)
                    self.assertIs(are_rows(book, sizes, rows + [rows[at]]), False)
                    self.assertIs(are_rows(book, sizes, rows[:at] + [rows[at]] + rows[at:]), False)
                    hours, place = rows[at]
                    for more in [
                        (hours + (0,), place), (hours[:-1], 0), (hours[:-1] + (lengths[len(hours) - 1],), place),
                        ((0,), 0), ((), 0), ((1,) + hours[1:], place), ((-1,), 0), (hours[:-1] + (-1,), place),
                    ]:
                        self.assertIs(are_rows(book, sizes, rows + [more]), False)

    def test_another_place_ahead_that_is_met_too(self):
        others = 0
        for book, sizes, rows in never_cases():
            lengths = lengths_of(book, sizes)
            for at, (hours, place) in list(enumerate(rows))[:30]:
                last = len(hours) - 1
                for other in range(-1, len(hours) + 1):
                    met = 0 <= other < last and meet(lengths[last], hours[last], lengths[other], hours[other])
                    changed = rows[:at] + [(hours, other)] + rows[at + 1:]
                    with self.subTest(book=book, sizes=sizes, changed=changed):
                        self.assertIs(are_rows(book, sizes, changed), met)
                    others += met and other != place
        self.assertGreater(others, 5)

    def test_a_row_may_stand_for_those_beneath_it_only_where_it_meets(self):
        # Three of length 2: the rows told, and (0, 1) as if it met.
        self.assertIs(are_rows(plain(6), [2, 2, 2], [((0, 0), 0), ((0, 1), 0)]), False)
        self.assertIs(are_rows(plain(6), [2, 2, 2], [((0, 0), 0), ((0, 1, 0), 0), ((0, 1, 1), 0)]), False)
        # What meets ahead is not gone further into, though all beneath it would meet, too.
        deeper = [((0, 0, 0), 0), ((0, 0, 1), 0), ((0, 1, 0), 0), ((0, 1, 1), 1)]
        self.assertIs(are_rows(plain(6), [2, 2, 2], deeper), False)

    def test_a_meeting_may_be_left_to_a_later_place(self):
        # Lengths 2, 2, 1: the last place meets whatever is ahead, so (0, 0) may be gone on with though it meets.
        book = Book([2, 1, 9, 9])
        sizes = [1, 1, 2]
        self.assertEqual(hours_of(book, sizes), ("never", [((0, 0), 0), ((0, 1, 0), 0)]))
        self.assertIs(are_rows(book, sizes, [((0, 0), 0), ((0, 1, 0), 0)]), True)
        self.assertIs(are_rows(book, sizes, [((0, 0, 0), 0), ((0, 1, 0), 0)]), True)
        self.assertIs(are_rows(book, sizes, [((0, 0, 0), 1), ((0, 1, 0), 1)]), True)
        self.assertIs(are_rows(book, sizes, [((0, 0), 0), ((0, 0, 0), 0), ((0, 1, 0), 0)]), False)
        self.assertIs(are_rows(book, sizes, [((0, 0, 0), 2), ((0, 1, 0), 1)]), False)

    def test_where_hours_rest_together_there_are_none(self):
        for book, sizes in cases():
            told, tried = search(lengths_of(book, sizes))
            if told[0] == "rest":
                with self.subTest(book=book, sizes=sizes):
                    self.assertIs(are_rows(book, sizes, []), False)
                    self.assertIs(are_rows(book, sizes, [((0,), 0)]), False)
                    self.assertIs(are_rows(book, sizes, [(tuple(told[1]), 0)]), False)

    def test_whatever_is_handed_in(self):
        rows = [((0, 0), 0), ((0, 1, 0), 0), ((0, 1, 1), 1)]
        self.assertIs(are_rows(plain(6), [2, 2, 2], rows), True)
        for thing in NO_NUMBERS + [0, tuple(rows), dict(rows), [list(row) for row in rows], "((0, 0), 0)", [rows]]:
            with self.subTest(thing=thing):
                self.assertIs(are_rows(plain(6), [2, 2, 2], thing), False)
        for part in NO_NUMBERS + [0, ((0, 0),), ((0, 0), 0, 0), (0, 0), ([0, 0], 0), ((0, [0]), 0), ((0, 0), None)]:
            for changed in [[part], [part] + rows[1:], rows[:2] + [part], rows + [part]]:
                with self.subTest(changed=changed):
                    self.assertIs(are_rows(plain(6), [2, 2, 2], changed), False)

    def test_truths_are_no_hours_and_no_places(self):
        for rows in [
            [((0, 0), False), ((0, 1, 0), 0), ((0, 1, 1), 1)], [((0, 0), 0), ((0, 1, 0), 0), ((0, 1, 1), True)],
            [((0, 0), 0), ((0, True, 0), 0), ((0, 1, 1), 1)], [((False, 0), 0), ((0, 1, 0), 0), ((0, 1, 1), 1)],
        ]:
            with self.subTest(rows=rows):
                self.assertIs(are_rows(plain(6), [2, 2, 2], rows), False)

    def test_very_long_lengths(self):
        book = Book([10 ** 9, 10 ** 9 - 1] + [1] * 6)
        self.assertIs(are_rows(book, [1, 2], [((0, 0), 0)]), True)
        self.assertIs(are_rows(book, [1, 1], []), False)
        self.assertIs(are_rows(book, [1, 1, 1, 1, 1, 1, 1, 1], [((0, 0), 0)]), False)
        many = [((0, 0), 0)] + [((0, 1, hour), 0) for hour in range(1300)]
        self.assertIs(are_rows(book, [1, 1, 1], many), False)


class SizesTest(unittest.TestCase):
    def meant(self, book, many):
        told = []
        for sizes in partitions(many):
            if search(lengths_of(book, sizes))[0][0] == "rest":
                told.append(sizes)
        return sorted(told)

    def test_one_to_eight_sleepers(self):
        numbers = chance(57)
        for many in range(1, 9):
            for choice in [range(1, 13), [2, 4, 6], [4, 6, 12], [6, 12, 9, 3], [12], [10, 12], [7, 12, 5]]:
                # To spare, and of any length: only those up to this number count.
                book = Book([numbers.choice(list(choice)) for k in range(many)] + [10 ** 9] * numbers.randint(0, 3))
                with self.subTest(book=book, many=many):
                    self.assertEqual(sizes_of(book, many), self.meant(book, many))

    def test_however_many_hours_a_search_would_try(self):
        book = Book([10, 12, 12, 12, 12, 12, 12, 12])
        told, tried = search(lengths_of(book, [1, 1, 1, 1, 1, 1, 2]))
        self.assertGreater(tried, 400)
        self.assertIn([1] * 8, sizes_of(book, 8))
        self.assertEqual([1, 1, 1, 1, 1, 1, 2] in sizes_of(book, 8), told[0] == "rest")

    def test_told_ones(self):
        self.assertEqual(sizes_of(Book([5]), 1), [[1]])
        self.assertEqual(sizes_of(Book([12] * 8), 8), sorted(partitions(8)))
        self.assertEqual(sizes_of(Book([1] * 8), 8), [[8]])
        self.assertEqual(sizes_of(plain(8), 8), [[2, 6], [4, 4], [8]])
        self.assertEqual(sizes_of(Book([3, 3, 3]), 3), [[1, 1, 1], [1, 2], [3]])
        self.assertEqual(sizes_of(Book([2, 2, 2]), 3), [[1, 2], [3]])

    def test_too_great(self):
        for lengths, many, first in [
            ([13], 1, 13), ([12, 13, 14], 2, 13), ([12, 13, 14], 3, 13), ([1, 10 ** 9, 13], 3, 10 ** 9),
            ([12] * 7 + [13], 8, 13),
        ]:
            with self.subTest(lengths=lengths, many=many), self.assertRaises(TooGreat) as caught:
                sizes_of(Book(lengths), many)
            self.assertEqual(caught.exception.length, first)
        self.assertEqual(sizes_of(Book([12, 13, 14]), 1), [[1]])
        self.assertEqual(sizes_of(Book([12] * 7 + [13]), 7), sorted(partitions(7)))

    def test_told_lists_are_new(self):
        for ask in [lambda: sizes_of(plain(8), 8), lambda: plain_sizes(8)]:
            told = ask()
            self.assertEqual([type(part) for part in [told] + told], [list] * (len(told) + 1))
            spoil(told)
            self.assertEqual(ask(), [[2, 6], [4, 4], [8]])


class PlainSizesTest(unittest.TestCase):
    def test_against_the_search(self):
        for many in range(1, 25):
            meant = []
            for sizes in partitions(many):
                # [7]: more groups than the root of the sleepers are never at rest.
                if len(sizes) ** 2 <= many and search(sizes)[0][0] == "rest":
                    meant.append(sizes)
            with self.subTest(many=many):
                self.assertEqual(plain_sizes(many), sorted(meant))

    def test_more_groups_are_never_at_rest(self):
        for many in range(1, 10):
            for sizes in partitions(many):
                if len(sizes) ** 2 > many:
                    self.assertEqual(search(sizes)[0][0], "never")

    def test_as_sizes_of_by_the_plain_book(self):
        for many in range(1, 9):
            self.assertEqual(plain_sizes(many), sizes_of(plain(many), many))

    def test_prime_halls(self):
        for many in range(1, 31):
            with self.subTest(many=many):
                told = plain_sizes(many)
                self.assertIn([many], told)
                self.assertEqual(told == [[many]], many == 1 or many in PRIMES)

    def test_thirty_one(self):
        self.assertEqual(plain_sizes(31), [[6, 10, 15], [31]])

    def test_each_rises_and_comes_to_as_many(self):
        for many in range(1, 32):
            told = plain_sizes(many)
            self.assertEqual(told, sorted(told))
            for sizes in told:
                self.assertEqual(sizes, sorted(sizes))
                self.assertEqual(sum(sizes), many)
                self.assertEqual(hours_of(plain(many), sizes, most=10 ** 6)[0], "rest")


if __name__ == "__main__":
    unittest.main()
