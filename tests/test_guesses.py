"""Guesses: [64] and [65], with [3] and [4] for them."""

import itertools
import unittest

from plainly import chance, spoil
from sleepmany.beats import counts_of
from sleepmany.books import Book, plain
from sleepmany.errors import NoRow, TooMany
from sleepmany.guesses import book_heard, books_heard, heap_knocked, knocked
from sleepmany.hearing import can_be_heard


def heaps_of(many, greatest):
    return list(itertools.combinations_with_replacement(range(1, greatest + 1), many))


def knocks_of(book, heap, beats):
    return [count > 0 for count in counts_of(book, heap, beats)]


class GuessCase(unittest.TestCase):
    def no_rows(self, ask, things, numbers):
        for number in numbers:
            with self.subTest(things=things, number=number), self.assertRaises(NoRow) as caught:
                ask(*things, number)
            self.assertEqual(caught.exception.number, number)

    def too_many(self, most, ask, *things):
        with self.subTest(things=things), self.assertRaises(TooMany) as caught:
            ask(*things)
        self.assertEqual(caught.exception.most, most)


class KnocksTest(GuessCase):
    def check(self, book, many, greatest, knocks):
        ahead = list(knocks)
        fit = [heap for heap in heaps_of(many, greatest) if knocks_of(book, heap, len(knocks)) == knocks]
        with self.subTest(book=book, many=many, greatest=greatest, knocks=knocks):
            self.assertEqual(knocked(book, many, greatest, knocks), len(fit))
            # Of many only some, for each is found by listing them all once more.
            numbers = range(0, len(fit), 1 + len(fit) // 60)
            told = [heap_knocked(book, many, greatest, knocks, number) for number in numbers]
            self.assertEqual(told, [fit[number] for number in numbers])
            self.assertEqual({type(heap) for heap in told} - {tuple}, set())
            self.no_rows(heap_knocked, (book, many, greatest, knocks), [len(fit), len(fit) + 1, 10 ** 60])
        self.assertEqual(knocks, ahead)
        return len(fit)

    def test_all_short_knocks(self):
        for book in [plain(3), Book([2, 2, 5]), Book([1, 1, 1]), Book([4, 3, 1])]:
            for many in range(4):
                for greatest in [1, 2, 4]:
                    for long in range(5):
                        found = 0
                        for knocks in itertools.product([False, True], repeat=long):
                            found += self.check(book, many, greatest, list(knocks))
                        # Each heap is heard with just one row of knocks.
                        self.assertEqual(found, len(heaps_of(many, greatest)))

    def test_knocks_of_none_one_and_forty(self):
        numbers = chance(64)
        for many, greatest in [(0, 1), (0, 40), (1, 40), (2, 40), (3, 17), (4, 10), (5, 7), (9, 5), (12, 4), (12, 1)]:
            book = Book([numbers.randint(1, 9) for again in range(12)])
            heap = tuple(sorted(numbers.randint(1, greatest) for again in range(many)))
            for long in [0, 1, 40]:
                self.check(book, many, greatest, knocks_of(book, heap, long))
            self.check(book, many, greatest, [True])
            self.check(book, many, greatest, [False] * 40)

    def test_nobody(self):
        self.assertEqual(knocked(plain(1), 0, 40, []), 1)
        self.assertEqual(knocked(plain(1), 0, 40, [False] * 40), 1)
        self.assertEqual(heap_knocked(plain(1), 0, 40, [False] * 40, 0), ())
        self.assertEqual(knocked(plain(1), 0, 40, [False, True]), 0)
        self.no_rows(heap_knocked, (plain(1), 0, 40, [False, True]), [0, 1])

    def test_told_ones(self):
        # Beat 1 and 2: somebody each time, by the plain book of two.
        self.assertEqual(knocked(plain(2), 2, 3, [True, True]), 2)
        self.assertEqual([heap_knocked(plain(2), 2, 3, [True, True], k) for k in range(2)], [(1, 2), (1, 3)])
        self.assertEqual(knocked(plain(2), 2, 3, [True, False]), 1)
        self.assertEqual(heap_knocked(plain(2), 2, 3, [True, False], 0), (1, 1))

    def test_too_many_whatever_is_heard(self):
        # How many heaps there are: the numbers to choose so many out of so many.
        for many, greatest in [(4, 11), (10, 5), (3, 18), (11, 5), (12, 5), (12, 40), (5, 9), (1, 1001)]:
            book = plain(12)
            for knocks in [[], [True], [False], [True, False] * 20, [False] * 40]:
                self.too_many(1000, knocked, book, many, greatest, knocks)
                self.too_many(1000, heap_knocked, book, many, greatest, knocks, 0)
                self.too_many(1000, heap_knocked, book, many, greatest, knocks, 10 ** 30)

    def test_just_as_many_as_are_taken(self):
        for many, greatest in [(4, 10), (9, 5), (3, 17), (2, 40), (12, 4), (1, 1000)]:
            told = knocked(plain(12), many, greatest, [])
            self.assertEqual(told, len(heaps_of(many, greatest)))
            self.assertEqual(heap_knocked(plain(12), many, greatest, [], told - 1), (greatest,) * many)
            self.no_rows(heap_knocked, (plain(12), many, greatest, []), [told])
        self.assertEqual(knocked(plain(12), 1, 1000, []), 1000)


class BooksTest(GuessCase):
    def fitting(self, counts, many, longest):
        books = itertools.product(range(1, longest + 1), repeat=many)
        if max(counts, default=0) > many:
            return []
        return [list(book) for book in books if can_be_heard(Book(list(book)), counts, many)]

    def check(self, counts, many, longest):
        ahead = list(counts)
        fit = self.fitting(counts, many, longest)
        with self.subTest(counts=counts, many=many, longest=longest):
            self.assertEqual(books_heard(counts, many, longest), len(fit))
            told = [book_heard(counts, many, longest, number) for number in range(len(fit))]
            self.assertEqual(told, fit)
            self.no_rows(book_heard, (counts, many, longest), [len(fit), len(fit) + 1, 10 ** 60])
        self.assertEqual(counts, ahead)
        return len(fit)

    def test_all_short_counts(self):
        found = []
        for many, longest in [(1, 1), (1, 4), (2, 1), (2, 3), (3, 2), (3, 3)]:
            for long in range(4):
                for counts in itertools.product(range(many + 2), repeat=long):
                    found.append(self.check(list(counts), many, longest))
        self.assertGreater(len([many for many in found if many > 1]), 50)
        self.assertGreater(found.count(0), 50)

    def test_counts_of_halls(self):
        numbers = chance(65)
        for again in range(60):
            many = numbers.randint(1, 4)
            longest = numbers.randint(1, 9 if many < 3 else 4)
            book = Book([numbers.randint(1, longest) for one in range(many)])
            heap = tuple(sorted(numbers.randint(1, 9) for one in range(many)))
            counts = counts_of(book, heap, numbers.choice([3, 6, 12, 60]))
            self.assertGreater(self.check(counts, many, longest), 0)
            self.assertIn(book.lengths(), self.fitting(counts, many, longest))

    def test_counts_of_none_and_of_sixty(self):
        for counts in [[], [0] * 60]:
            self.assertEqual(books_heard(counts, 6, 9), 9 ** 6)
            self.assertEqual(book_heard(counts, 6, 9, 0), [1] * 6)
            self.assertEqual(book_heard(counts, 6, 9, 9 ** 6 - 1), [9] * 6)
            self.assertEqual(book_heard(counts, 6, 9, 9 ** 5 + 2 * 9 + 4), [2, 1, 1, 1, 3, 5])
            self.no_rows(book_heard, (counts, 6, 9), [9 ** 6])
        self.check([], 3, 3)
        # One at each beat: by turns, so many as one sleeps long; the length of one is any that all six can fill.
        self.assertEqual(books_heard([1] * 60, 6, 9), 6 * 9 ** 5)
        self.assertEqual(book_heard([1] * 60, 6, 9, 6 * 9 ** 5 - 1), [6, 9, 9, 9, 9, 9])
        self.assertEqual(books_heard([6] * 60, 6, 9), 9 ** 5)
        self.assertEqual(book_heard([6] * 60, 6, 9, 9), [1, 1, 1, 2, 1, 1])

    def test_not_all_need_be_heard(self):
        # One of three was up at beat 2, and nobody behind it: it slept longer than one beat.
        self.assertEqual(books_heard([0, 1, 0], 3, 2), 4)
        self.assertEqual([book_heard([0, 1, 0], 3, 2, k) for k in range(4)],
                         [[2, 1, 1], [2, 1, 2], [2, 2, 1], [2, 2, 2]])

    def test_a_count_above_the_sleepers_fits_to_none(self):
        for counts, many in [([2], 1), ([0, 0, 7], 6), ([1, 1, 4], 3), ([10 ** 40], 6), ([3, 0, 0, 0], 2)]:
            self.assertEqual(books_heard(counts, many, 2), 0)
            self.no_rows(book_heard, (counts, many, 2), [0, 1, 10 ** 30])

    def test_too_many_by_unlike_counts(self):
        for counts, many, longest in [
            ([1, 2, 3, 4], 4, 8), ([1, 2, 3, 4], 6, 9), ([1, 2, 3, 4, 5], 5, 6), ([6, 5, 4, 3, 2, 1, 0], 6, 4),
            ([1, 0, 2, 0, 3, 0, 4, 4, 4], 6, 8), ([1, 2, 3, 4, 7], 6, 8), ([10 ** 40, 1, 2, 3, 4], 4, 8),
            ([1], 1, 4001),
        ]:
            self.too_many(4000, books_heard, counts, many, longest)
            self.too_many(4000, book_heard, counts, many, longest, 0)
            self.too_many(4000, book_heard, counts, many, longest, 10 ** 30)

    def test_not_too_many(self):
        # Noughts, counts told again and counts above the sleepers are none of the unlike ones.
        for counts, many, longest in [
            ([1, 2, 3, 4], 4, 7), ([1, 2, 3, 0, 0, 3, 2, 1], 6, 9), ([1, 2, 3, 7, 8, 9], 6, 9), ([1, 2, 3, 4], 3, 9),
            ([1, 2, 3, 4, 5], 5, 5), ([6, 5, 4, 3, 2, 1], 6, 3), ([1] * 60, 6, 9), ([1], 1, 4000),
        ]:
            with self.subTest(counts=counts, many=many, longest=longest):
                told = books_heard(counts, many, longest)
                if longest ** many < 10 ** 5:
                    self.assertEqual(told, len(self.fitting(counts, many, longest)))
                self.no_rows(book_heard, (counts, many, longest), [told])

    def test_told_lists_are_new(self):
        counts = [1, 0, 1]
        told = book_heard(counts, 3, 3, 1)
        again = book_heard(counts, 3, 3, 1)
        self.assertEqual(told, again)
        spoil(told)
        self.assertEqual(book_heard(counts, 3, 3, 1), again)
        self.assertEqual(counts, [1, 0, 1])


if __name__ == "__main__":
    unittest.main()
