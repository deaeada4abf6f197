"""Hearing: [60] to [63], with [3], [4], [10] and [13] for them."""

import itertools
import unittest

from plainly import chance, names_of, spoil
from sleepmany.beats import counts_of
from sleepmany.books import Book, plain, slower_book
from sleepmany.errors import NoHall, NoRow
from sleepmany.hearing import can_be_heard, dealing, dealings, heard_heap, new_ones, unlike_at


def news(lengths, counts, many):
    """What is new at each beat by the words of [60], and the least place of a refusal, None where there is none."""
    told = []
    for at, count in enumerate(counts):
        due = 0
        for place in range(at):
            ahead = counts[place]
            if ahead > 0 and place + lengths[ahead - 1] == at:
                due += ahead
        told.append(count - due)
        if count > many or told[-1] < 0 or sum(told) > many:
            return told, at
    return told, None


def small_heaps(many, greatest):
    return itertools.combinations_with_replacement(range(1, greatest + 1), many)


def some_books():
    numbers = chance(60)
    yield from [Book([1]), Book([3]), plain(3), plain(4), Book([2, 2, 2]), Book([4, 1, 3, 2]), Book([10 ** 9] * 3)]
    for many in [1, 2, 3, 4, 4, 5]:
        yield Book([numbers.randint(1, 6) for again in range(many)])


class HearingCase(unittest.TestCase):
    def no_hall(self, at, ask, *things):
        with self.subTest(things=things), self.assertRaises(NoHall) as caught:
            ask(*things)
        self.assertIs(type(caught.exception.at), int)
        self.assertEqual(caught.exception.at, at)

    def check(self, book, counts, many):
        """All three of [60], against its words."""
        new, at = news(book.lengths(), counts, many)
        ahead = list(counts)
        with self.subTest(book=book, counts=counts, many=many):
            self.assertIs(can_be_heard(book, counts, many), at is None)
            if at is not None:
                self.no_hall(at, new_ones, book, counts, many)
                self.no_hall(at, heard_heap, book, counts, many)
            else:
                self.assertEqual(new_ones(book, counts, many), new)
                self.assertIs(type(new_ones(book, counts, many)), list)
                heap = tuple(beat for beat in range(1, len(counts) + 1) for again in range(new[beat - 1]))
                told = heard_heap(book, counts, many)
                self.assertEqual(told, (heap, many - len(heap)))
                self.assertEqual([type(told), type(told[0]), type(told[1])], [tuple, tuple, int])
            self.assertEqual(counts, ahead)
        return at


class CountsTest(HearingCase):
    def test_all_short_rows_of_counts(self):
        refused = heard = 0
        for book in some_books():
            for many in range(min(len(book), 3) + 1):
                for long in range(5):
                    for counts in itertools.product(range(many + 2), repeat=long):
                        at = self.check(book, list(counts), many)
                        refused += at is not None
                        heard += at is None
        self.assertGreater(refused, 500)
        self.assertGreater(heard, 500)

    def test_counts_of_none_and_of_sixty(self):
        for many in range(5):
            self.assertIs(can_be_heard(plain(4), [], many), True)
            self.assertEqual(new_ones(plain(4), [], many), [])
            self.assertEqual(heard_heap(plain(4), [], many), ((), many))
            self.assertEqual(heard_heap(plain(4), [0] * 60, many), ((), many))
            self.assertEqual(new_ones(plain(4), [0] * 60, many), [0] * 60)
        counts = counts_of(plain(40), tuple(range(1, 41)), 60)
        self.assertEqual(heard_heap(plain(40), counts, 40), (tuple(range(1, 41)), 0))
        self.check(plain(40), counts, 40)
        self.check(plain(40), counts, 39)
        self.check(plain(40), counts[:-1] + [41], 40)

    def test_nobody(self):
        self.assertIs(can_be_heard(plain(2), [0, 0], 0), True)
        self.assertIs(can_be_heard(plain(2), [0, 1], 0), False)
        self.assertEqual(heard_heap(plain(2), [0, 0], 0), ((), 0))
        self.no_hall(1, heard_heap, plain(2), [0, 1], 0)

    def test_the_three_reasons(self):
        # A count above the sleepers, of which the book has no length either.
        self.no_hall(0, new_ones, plain(3), [4], 3)
        self.no_hall(2, new_ones, plain(3), [0, 0, 10 ** 40, 9], 3)
        # What is new is below 0: two were due.
        self.no_hall(2, new_ones, plain(3), [2, 0, 0], 3)
        self.no_hall(2, new_ones, plain(3), [2, 0, 1], 3)
        self.no_hall(1, new_ones, plain(3), [1, 0], 1)
        # All that is new is more than the sleepers.
        self.no_hall(1, new_ones, plain(4), [2, 2], 3)
        self.no_hall(3, new_ones, plain(4), [0, 2, 0, 4], 3)
        self.no_hall(1, new_ones, plain(4), [2, 1], 2)

    def test_the_least_place_whichever_it_is(self):
        for counts, at in [
            ([2, 0, 1, 4], 2), ([2, 0, 4, 0], 2), ([4, 0, 0], 0), ([2, 2, 0, 9], 1), ([1, 0, 9], 1), ([0, 3, 3, 3, 9], 2),
        ]:
            for ask in [new_ones, heard_heap]:
                self.no_hall(at, ask, plain(4), counts, 3)
            self.no_hall(at, dealings, plain(4), counts, ["a", "b", "c"])
            self.no_hall(at, dealing, plain(4), counts, ["a", "b", "c"], 0)

    def test_two_ups_may_lead_to_one_beat(self):
        # One up at beat 1 for 3 beats, two up at beat 3 for 1: three are due at beat 4.
        book = Book([3, 1, 9])
        self.assertEqual(new_ones(book, [1, 0, 2, 3], 3), [1, 0, 2, 0])
        self.assertEqual(heard_heap(book, [1, 0, 2, 3], 3), ((1, 3, 3), 0))
        self.no_hall(3, new_ones, book, [1, 0, 2, 2], 3)

    def test_told_lists_are_new(self):
        counts = [2, 2, 2, 2]
        told = new_ones(plain(4), counts, 4)
        spoil(told)
        self.assertEqual(new_ones(plain(4), counts, 4), [2, 2, 0, 0])
        self.assertEqual(counts, [2, 2, 2, 2])


class HeardBackTest(HearingCase):
    """[10] and [61]: counts and rests without names are one thing told twice."""

    def test_counts_of_small_heaps_are_heard_back(self):
        for book in some_books():
            for many in range(min(len(book), 4) + 1):
                for heap in small_heaps(many, 5):
                    for beats in [0, 1, 3, 5, 20]:
                        counts = counts_of(book, heap, beats)
                        heard = tuple(rest for rest in heap if rest <= beats)
                        self.assertTrue(can_be_heard(book, counts, many))
                        self.assertEqual(heard_heap(book, counts, many), (heard, many - len(heard)))

    def test_each_heap_that_has_what_is_told_is_heard_so(self):
        for book in [plain(3), Book([2, 5, 1]), Book([3, 3, 3])]:
            for many in range(4):
                heaps = list(small_heaps(many, 6))
                for counts in itertools.product(range(many + 1), repeat=3):
                    so = [heap for heap in heaps if counts_of(book, heap, 3) == list(counts)]
                    if not can_be_heard(book, list(counts), many):
                        self.assertEqual(so, [])
                        continue
                    heard, left = heard_heap(book, list(counts), many)
                    later = itertools.combinations_with_replacement([4, 5, 6], left)
                    self.assertEqual(so, sorted(heard + rest for rest in later))

    def test_forty_sleepers(self):
        numbers = chance(61)
        for again in range(20):
            many = numbers.randint(1, 40)
            book = Book([numbers.randint(1, 70) for one in range(many)])
            heap = tuple(sorted(numbers.randint(1, 80) for one in range(many)))
            counts = counts_of(book, heap, 60)
            heard = tuple(rest for rest in heap if rest <= 60)
            self.assertEqual(heard_heap(book, counts, many), (heard, many - len(heard)))


class UnlikeTest(HearingCase):
    def test_small_heaps_against_hearing_them(self):
        for book in [plain(3), Book([2, 5, 1]), Book([1, 1, 1])]:
            heaps = [heap for many in range(4) for heap in small_heaps(many, 4)]
            heard = {heap: counts_of(book, heap, 5) for heap in heaps}
            for one in heaps:
                for other in heaps:
                    beats = [at for at in range(5) if heard[one][at] != heard[other][at]]
                    with self.subTest(book=book, one=one, other=other):
                        told = unlike_at(book, one, other)
                        self.assertEqual(told, beats[0] + 1 if beats else None)
                        self.assertEqual(told is None, one == other)

    def test_told_ones(self):
        for one, other, meant in [
            ((), (), None), ((), (7,), 7), ((1, 2, 3), (1, 2, 3), None), ((1, 2), (1, 2, 9), 9), ((1, 2), (1, 1, 2), 1),
            ((2, 2, 5), (2, 2, 6), 5), ((1, 5), (1, 6), 5), ((10 ** 60,), (10 ** 60, 10 ** 60), 10 ** 60),
            ((1, 10 ** 60 + 1), (1, 10 ** 60), 10 ** 60), ((1, 1, 4), (1, 4, 4), 1), ((4,) * 40, (4,) * 39, 4),
        ]:
            with self.subTest(one=one, other=other):
                self.assertEqual(unlike_at(plain(40), one, other), meant)
                self.assertEqual(unlike_at(plain(40), other, one), meant)

    def test_the_least_rest_that_they_have_unlike_often(self):
        numbers = chance(62)
        for again in range(300):
            one, other = [tuple(sorted(numbers.choices(range(1, 9), k=numbers.randint(0, 40)))) for both in "ab"]
            unlike = [rest for rest in range(1, 9) if one.count(rest) != other.count(rest)]
            self.assertEqual(unlike_at(plain(40), one, other), unlike[0] if unlike else None)


class DealingTest(HearingCase):
    def lists(self, book, counts, many):
        """All lists that fit, listed and sorted."""
        heap, left = heard_heap(book, counts, many)
        return sorted(set(itertools.permutations((0,) * left + heap)))

    def test_each_number_against_listing_all(self):
        dealt = 0
        for book in some_books():
            for many in range(min(len(book), 5) + 1):
                names = names_of(many)
                for heap in list(small_heaps(many, 4))[::3]:
                    for beats in [0, 2, 4]:
                        counts = counts_of(book, heap, beats)
                        lists = self.lists(book, counts, many)
                        self.assertEqual(dealings(book, counts, names), len(lists))
                        told = [dealing(book, counts, names, number) for number in range(len(lists))]
                        self.assertEqual(told, [list(one) for one in lists])
                        self.no_row(book, counts, names, [len(lists), len(lists) + 1, 10 ** 60])
                        dealt += len(lists)
        self.assertGreater(dealt, 500)

    def no_row(self, book, counts, names, numbers):
        for number in numbers:
            with self.assertRaises(NoRow) as caught:
                dealing(book, counts, names, number)
            self.assertEqual(caught.exception.number, number)

    def test_names_in_the_order_handed_in(self):
        names = ["zoe", "b", "anna"]
        counts = [1, 1, 0, 0]
        book = Book([9, 9, 9])
        told = [dealing(book, counts, names, number) for number in range(dealings(book, counts, names))]
        self.assertEqual(told, [[0, 1, 2], [0, 2, 1], [1, 0, 2], [1, 2, 0], [2, 0, 1], [2, 1, 0]])
        self.assertEqual(names, ["zoe", "b", "anna"])
        self.assertEqual(counts, [1, 1, 0, 0])

    def test_nobody_and_nobody_heard(self):
        self.assertEqual(dealings(plain(2), [], []), 1)
        self.assertEqual(dealing(plain(2), [], [], 0), [])
        self.assertEqual(dealing(plain(2), [0, 0], [], 0), [])
        self.no_row(plain(2), [], [], [1])
        self.assertEqual(dealings(plain(2), [0, 0], ["a", "b"]), 1)
        self.assertEqual(dealing(plain(2), [0, 0], ["a", "b"], 0), [0, 0])
        self.no_row(plain(2), [0, 0], ["a", "b"], [1, 2])

    def test_no_hall_is_ahead_of_no_row(self):
        self.no_hall(0, dealing, plain(2), [3], ["a", "b"], 10 ** 60)
        self.no_hall(2, dealing, plain(3), [2, 0, 0], ["a", "b", "c"], 0)
        self.no_hall(0, dealings, plain(2), [1], [])
        # Of as many sleepers as there are names, not as many as the book has lengths.
        self.no_hall(0, dealings, plain(3), [3], ["a", "b"])

    def test_forty_names(self):
        names = names_of(40)
        book = Book([100] * 40)
        counts = [1] * 40
        many = 1
        for one in range(1, 41):
            many *= one
        self.assertEqual(dealings(book, counts, names), many)
        self.assertEqual(dealing(book, counts, names, 0), list(range(1, 41)))
        self.assertEqual(dealing(book, counts, names, many - 1), list(range(40, 0, -1)))
        self.no_row(book, counts, names, [many])
        counts = [20] + [0] * 59
        self.assertEqual(dealings(book, counts, names), 137846528820)
        self.assertEqual(dealing(book, counts, names, 0), [0] * 20 + [1] * 20)
        self.assertEqual(dealing(book, counts, names, 1), [0] * 19 + [1, 0] + [1] * 19)
        self.assertEqual(dealing(book, counts, names, 137846528819), [1] * 20 + [0] * 20)

    def test_one_behind_another_they_rise(self):
        names = names_of(12)
        book = Book([50] * 12)
        counts = [3, 0, 2, 1, 0, 4]
        many = dealings(book, counts, names)
        numbers = chance(63)
        for number in [0, many - 2] + [numbers.randrange(many - 1) for again in range(50)]:
            one, other = dealing(book, counts, names, number), dealing(book, counts, names, number + 1)
            self.assertLess(one, other)
            self.assertEqual(sorted(one), [0, 0, 1, 1, 1, 3, 3, 4, 6, 6, 6, 6])

    def test_what_fits_is_heard_so(self):
        book = Book([2, 3, 1, 4])
        counts = counts_of(book, (1, 2, 2, 7), 4)
        names = ["d", "c", "b", "a"]
        for number in range(dealings(book, counts, names)):
            firsts = dealing(book, counts, names, number)
            heap = tuple(sorted(first or 99 for first in firsts))
            self.assertEqual(counts_of(book, heap, 4), counts)

    def test_told_lists_are_new(self):
        told = dealing(plain(4), [2, 2], ["a", "b", "c", "d"], 1)
        spoil(told)
        self.assertEqual(dealing(plain(4), [2, 2], ["a", "b", "c", "d"], 1), [1, 2, 1, 2])


class SlowerTest(HearingCase):
    """[13]: what is heard of the slower hall."""

    def test_the_slower_hall(self):
        for by in [2, 3, 7]:
            for book in some_books():
                if max(book.lengths()) < 10 ** 6:
                    heap = tuple(range(1, len(book) + 1))
                    slow = tuple(by * rest for rest in heap)
                    counts = counts_of(book, heap, 8)
                    slower = [0] * (8 * by)
                    slower[by - 1::by] = counts
                    self.assertEqual(counts_of(slower_book(book, by), slow, 8 * by), slower)
                    self.assertEqual(heard_heap(slower_book(book, by), slower, len(book)), (slow, 0))


if __name__ == "__main__":
    unittest.main()
