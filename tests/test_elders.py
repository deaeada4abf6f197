"""Elders and gardens: [72] and [73], with [4] for them."""

import functools
import itertools
import math
import unittest

from plainly import all_standings, beat_of, chance, names_of, some_hall
from sleepmany.beats import beat_of_heap
from sleepmany.books import Book, plain
from sleepmany.elders import elder, elders, gardens, is_garden
from sleepmany.errors import NoRow, TooMany

FAR = 10 ** 40


def elders_of(lengths, standing, beats, greatest):
    """All standings up to a greatest rest that lead to this one, tried one by one, in the order of [72]."""
    found = []
    for first in all_standings([name for name, rest in standing], greatest):
        there = first
        ups = []
        for again in range(beats):
            there, up = beat_of(lengths, there)
            ups.insert(0, tuple(up))
        if there == standing:
            found.append(([len(up) for up in ups], ups, first))
    return [first for counts, ups, first in sorted(found)]


class EldersTest(unittest.TestCase):
    def no_rows(self, book, standing, beats, greatest, numbers):
        for number in numbers:
            with self.subTest(standing=standing, number=number), self.assertRaises(NoRow) as caught:
                elder(book, standing, beats, greatest, number)
            self.assertEqual(caught.exception.number, number)

    def too_many(self, book, standing, beats, greatest):
        for ask, more in [(elders, ()), (elder, (0,)), (elder, (FAR,))]:
            with self.subTest(standing=standing, beats=beats), self.assertRaises(TooMany) as caught:
                ask(book, standing, beats, greatest, *more)
            self.assertEqual(caught.exception.most, 1000)

    def check(self, book, standing, beats, greatest):
        meant = elders_of(book.lengths(), standing, beats, greatest)
        with self.subTest(book=book, standing=standing, beats=beats, greatest=greatest):
            self.assertEqual(elders(book, standing, beats, greatest), len(meant))
            told = [elder(book, standing, beats, greatest, number) for number in range(len(meant))]
            self.assertEqual(told, meant)
            self.no_rows(book, standing, beats, greatest, [len(meant), len(meant) + 1, FAR])
        return len(meant)

    def test_small_halls_against_trying_all(self):
        numbers = chance(72)
        found = []
        for again in range(25):
            lengths, standing = some_hall(numbers, numbers.randint(0, 3), 3, 3)
            for beats in [0, 1, 2, 3, 5, 8]:
                for greatest in [1, 3, 6]:
                    found.append(self.check(Book(lengths), standing, beats, greatest))
        self.assertGreater(found.count(0), 20)
        self.assertGreater(len([many for many in found if many > 3]), 10)

    def test_halls_with_many_elders(self):
        for lengths, standing in [
            ([1, 1, 1], (("a", 1), ("b", 1), ("c", 1))), ([2, 2, 2], (("a", 2), ("b", 2), ("c", 2))),
            ([1, 2, 3], (("a", 3), ("b", 3), ("c", 3))), ([1, 2, 1], (("a", 1), ("b", 1), ("c", 2))),
            ([1, 1, 1, 1], (("a", 1), ("b", 1), ("c", 1), ("d", 1))),
        ]:
            found = [self.check(Book(lengths), standing, beats, 5) for beats in range(5)]
            self.assertGreater(max(found), 3)

    def test_of_no_beats(self):
        standing = (("a", 3), ("b", 5))
        self.assertEqual(elders(plain(2), standing, 0, 5), 1)
        self.assertEqual(elder(plain(2), standing, 0, 5, 0), standing)
        self.no_rows(plain(2), standing, 0, 5, [1, FAR])
        self.assertEqual(elders(plain(2), standing, 0, 4), 0)
        self.no_rows(plain(2), standing, 0, 4, [0, 1])

    def test_nobody(self):
        for beats in [0, 1, 40]:
            self.assertEqual(elders(plain(2), (), beats, 1), 1)
            self.assertEqual(elder(plain(2), (), beats, 1, 0), ())
            self.no_rows(plain(2), (), beats, 1, [1, 2])

    def test_great_rests_have_no_elders_up_to_sixty(self):
        self.assertEqual(elders(plain(1), (("a", FAR),), 40, 60), 0)
        self.no_rows(plain(1), (("a", FAR),), 40, 60, [0])

    def test_one_sleeper_far_back(self):
        # Up at each beat of the last ones, or not up yet: its rest then was from 1 to one more than the beats.
        for beats in [1, 7, 40]:
            self.assertEqual(elders(Book([1]), (("a", 1),), beats, 60), beats + 1)
            told = [elder(Book([1]), (("a", 1),), beats, 60, number)[0][1] for number in range(beats + 1)]
            self.assertEqual(told, list(range(beats + 1, 0, -1)))
            self.assertEqual(elders(Book([1]), (("a", 1),), beats, 5), min(beats + 1, 5))

    def test_forty_sleepers(self):
        names = names_of(40)
        standing = tuple((name, 40) for name in names)
        # All forty were up, or nobody was; behind 39 beats without one only the one beat ahead is left.
        self.assertEqual(elders(plain(40), standing, 1, 60), 2)
        self.assertEqual(elder(plain(40), standing, 1, 60, 0), tuple((name, 41) for name in names))
        self.assertEqual(elder(plain(40), standing, 1, 60, 1), tuple((name, 1) for name in names))
        self.no_rows(plain(40), standing, 1, 60, [2])
        # Any twenty of them, or nobody.
        book = Book([9] * 19 + [40] + [9] * 20)
        self.assertEqual(elders(book, standing, 1, 60), 137846528820 + 1)
        self.assertEqual(elder(book, standing, 1, 60, 1), tuple((name, 1 if k < 20 else 41) for k, name in enumerate(names)))
        last = tuple((name, 1 if k >= 20 else 41) for k, name in enumerate(names))
        self.assertEqual(elder(book, standing, 1, 60, 137846528820), last)
        self.no_rows(book, standing, 1, 60, [137846528821])
        self.assertEqual(elders(book, standing, 1, 40), 0)

    def test_just_a_thousand_heaps_and_more(self):
        # Counted by listing: 27 beats ahead of these there are just 1,000 heaps.
        standing = (("a", 1), ("b", 2), ("c", 3))
        for book in [Book([3, 1, 1]), Book([3, 2, 2])]:
            self.assertEqual(self.heaps_ahead(book, (1, 2, 3), 27), 1000)
            self.assertGreater(elders(book, standing, 27, 60), 0)
            self.no_rows(book, standing, 27, 60, [elders(book, standing, 27, 60)])
            for beats in [28, 29, 40]:
                self.too_many(book, standing, beats, 60)
                # Whatever their rests.
                self.too_many(book, standing, beats, 1)

    def heaps_ahead(self, book, heap, beats):
        """How many heaps lead to this one in so many beats, by trying all heaps with rests that are not too great."""
        many = 0
        for first in itertools.combinations_with_replacement(range(1, max(heap) + beats + 1), len(heap)):
            there = first
            for again in range(beats):
                there = beat_of_heap(book, there)[0]
            many += there == heap
        return many

    def test_what_was_handed_in_is_as_it_was(self):
        standing = (("a", 1), ("b", 1))
        one = elder(Book([1, 1]), standing, 2, 9, 1)
        self.assertIs(type(one), tuple)
        self.assertEqual(elder(Book([1, 1]), standing, 2, 9, 1), one)
        # A told one is handed in again.
        self.assertGreater(elders(Book([1, 1]), one, 2, 9), 0)


class GardensTest(unittest.TestCase):
    def books(self):
        numbers = chance(73)
        yield from [plain(1), plain(4), plain(5), Book([1, 1, 1, 1]), Book([9, 9, 9, 1]), Book([5, 4, 3, 2, 1])]
        for again in range(8):
            yield Book([numbers.randint(1, 5) for one in range(5)])

    def heaps(self, book, many, greatest):
        """Which heaps are gardens: those that no heap with somebody up leads to."""
        heaps = list(itertools.combinations_with_replacement(range(1, greatest + 1), many))
        led_to = {}
        for heap in itertools.combinations_with_replacement(range(1, greatest + 2), many):
            behind, up = beat_of_heap(book, heap)
            if up > 0:
                led_to[behind] = True
        return {heap: heap not in led_to for heap in heaps}

    def test_small_heaps_against_trying_all(self):
        told = []
        for book in self.books():
            for many in range(min(len(book), 5) + 1):
                for greatest in [1, 2, 4, 6]:
                    meant = self.heaps(book, many, greatest)
                    with self.subTest(book=book, many=many, greatest=greatest):
                        for heap, garden in meant.items():
                            self.assertIs(is_garden(book, heap), garden)
                        self.assertEqual(gardens(book, many, greatest), list(meant.values()).count(True))
                        told.extend(meant.values())
        self.assertGreater(told.count(True), 100)
        self.assertGreater(told.count(False), 100)

    def test_nobody(self):
        for book in self.books():
            self.assertIs(is_garden(book, ()), True)
            for greatest in [1, 60]:
                self.assertEqual(gardens(book, 0, greatest), 1)

    def test_told_ones(self):
        self.assertIs(is_garden(plain(2), (1, 5)), False)
        self.assertIs(is_garden(plain(2), (2, 5)), True)
        self.assertIs(is_garden(plain(2), (2, 2)), False)
        self.assertIs(is_garden(plain(3), (2, 2, 3)), False)
        self.assertIs(is_garden(plain(3), (2, 3, 3)), True)
        self.assertIs(is_garden(plain(3), (3, 3, 3)), False)
        self.assertIs(is_garden(plain(3), (FAR, FAR, FAR)), True)
        # One can have slept 3, though three would have slept 9.
        self.assertIs(is_garden(Book([3, 9, 9]), (3, 4, 5)), False)
        self.assertIs(is_garden(Book([9, 3, 3]), (3, 4, 5)), True)

    def test_a_length_that_more_have_than_are_there(self):
        self.assertIs(is_garden(Book([9, 9, 5]), (5, 5)), True)
        self.assertEqual(gardens(Book([9, 9, 5]), 2, 5), 15)
        self.assertEqual(gardens(Book([9, 9, 5]), 3, 5), 34)

    def test_forty_sleepers_with_rests_to_sixty(self):
        numbers = chance(74)
        books = [plain(40), Book([1] * 40), Book([60] * 40), Book([61] * 40), Book(list(range(40, 0, -1)))]
        books += [Book([numbers.randint(1, 70) for one in range(40)]) for again in range(5)]
        for book in books:
            for many, greatest in [(40, 60), (39, 60), (40, 1), (17, 60), (40, 30)]:
                lengths = book.lengths()
                caps = [lengths.index(rest) if rest in lengths else many for rest in range(1, greatest + 1)]

                @functools.cache
                def ways(at, left):
                    if at == len(caps):
                        return 1 if left == 0 else 0
                    return sum(ways(at + 1, left - here) for here in range(min(caps[at], left) + 1))

                with self.subTest(book=book, many=many, greatest=greatest):
                    self.assertEqual(gardens(book, many, greatest), ways(0, many))

    def test_great_numbers(self):
        # None of the lengths is up to 60: all heaps are gardens.
        self.assertEqual(gardens(Book([61] * 40), 40, 60), math.comb(99, 40))


if __name__ == "__main__":
    unittest.main()
