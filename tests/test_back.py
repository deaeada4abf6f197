"""Led back: [70] and [71], with [3], [4] and [11] for them."""

import itertools
import math
import unittest

from plainly import all_standings, beat_of, chance, names_of, some_hall, spoil, walk
from sleepmany.back import heaps_back, histories, history, number_of
from sleepmany.beats import beat_of_heap, counts_of
from sleepmany.books import Book, plain
from sleepmany.errors import NoRow, NotSo, NoWay
from sleepmany.standings import heap_of

FAR = 10 ** 40


def histories_of(lengths, standing, beats):
    """All rows of standings that lead to this one in so many beats, found by trying all standings: with the ups."""
    rows = [([standing], [])]
    for again in range(beats):
        longer = []
        for standings, ups in rows:
            first = standings[0]
            greatest = max([rest for name, rest in first], default=0) + 1
            for ahead in all_standings([name for name, rest in first], greatest):
                behind, up = beat_of(lengths, ahead)
                if behind == first:
                    longer.append(([ahead] + standings, [up] + ups))
        rows = longer
    return rows


class BackCase(unittest.TestCase):
    def no_way(self, at, book, standing, counts):
        """All that are led back by counts are refused at this place, ahead of NoRow."""
        for ask, things in [
            (heaps_back, (book, heap_of(standing), counts)), (histories, (book, standing, counts)),
            (history, (book, standing, counts, 0)), (history, (book, standing, counts, FAR)),
        ]:
            with self.subTest(book=book, standing=standing, counts=counts), self.assertRaises(NoWay) as caught:
                ask(*things)
            self.assertIs(type(caught.exception.at), int)
            self.assertEqual(caught.exception.at, at)

    def no_rows(self, book, standing, counts, numbers):
        for number in numbers:
            with self.subTest(counts=counts, number=number), self.assertRaises(NoRow) as caught:
                history(book, standing, counts, number)
            self.assertEqual(caught.exception.number, number)


class HeapsTest(BackCase):
    def test_brought_about_by_going_forward(self):
        numbers = chance(70)
        for again in range(200):
            many = numbers.choice([0, 1, 2, 3, 5, 8, 40])
            lengths, standing = some_hall(numbers, many, numbers.choice([3, 9, 50]), numbers.choice([3, 9, 50]))
            beats = numbers.choice([0, 1, 2, 5, 20, 61])
            heap = heap_of(standing)
            heaps = [heap]
            for one in range(beats):
                heaps.append(beat_of_heap(Book(lengths), heaps[-1])[0])
            counts = counts_of(Book(lengths), heap, beats)
            ahead = list(counts)
            with self.subTest(lengths=lengths, standing=standing, beats=beats):
                told = heaps_back(Book(lengths), heaps[-1], counts)
                self.assertEqual(told, heaps)
                self.assertIs(type(told), list)
                self.assertEqual({type(one) for one in told}, {tuple})
                self.assertEqual(counts, ahead)

    def test_counts_of_none(self):
        self.assertEqual(heaps_back(plain(3), (1, 2, 2), []), [(1, 2, 2)])
        self.assertEqual(heaps_back(plain(3), (), []), [()])
        self.assertEqual(heaps_back(plain(3), (), [0, 0]), [(), (), ()])

    def test_nobody_up_can_always_have_been(self):
        self.assertEqual(heaps_back(plain(3), (1, 5), [0, 0, 0]), [(4, 8), (3, 7), (2, 6), (1, 5)])
        self.assertEqual(heaps_back(plain(1), (FAR,), [0]), [(FAR + 1,), (FAR,)])

    def test_told_ones(self):
        self.assertEqual(heaps_back(plain(4), (1, 1, 2, 2), [2, 2]), [(1, 1, 2, 2), (1, 1, 2, 2), (1, 1, 2, 2)])
        self.assertEqual(heaps_back(plain(3), (2, 2, 2), [2]), [(1, 1, 3), (2, 2, 2)])
        self.assertEqual(heaps_back(Book([2, 1]), (2, 3), [1]), [(1, 4), (2, 3)])
        # Just k of more that have the rest for k.
        self.assertEqual(heaps_back(Book([2, 9, 9]), (2, 2, 2), [1]), [(1, 3, 3), (2, 2, 2)])

    def test_no_way_for_each_reason(self):
        two = (("a", 1), ("b", 5))
        # There are not so many with this rest.
        self.no_way(0, plain(2), two, [2])
        self.no_way(0, Book([3, 5]), two, [1])
        self.no_way(0, Book([3, 5]), two, [2])
        self.no_way(0, plain(2), (), [1])
        # The book has no such length.
        self.no_way(0, plain(2), two, [3])
        self.no_way(0, plain(2), two, [FAR])
        # The book has the length, but there are fewer sleepers.
        self.no_way(0, Book([1, 1, 5]), two, [3])

    def test_at_the_greatest_place(self):
        two = (("a", 1), ("b", 5))
        self.no_way(2, plain(2), two, [0, 0, 2])
        self.no_way(2, plain(2), two, [FAR, 2, 2])
        self.no_way(1, plain(2), two, [3, 2, 1])
        self.no_way(1, plain(2), two, [2, 9, 0, 0])
        self.no_way(0, plain(2), two, [2, 1, 1])
        self.no_way(0, plain(2), two, [7, 1, 1])
        self.no_way(60, plain(2), two, [0] * 60 + [2])
        self.no_way(0, plain(2), two, [2] + [0] * 60)

    def test_all_short_counts(self):
        """What was heard of heaps is led back, and nothing else is."""
        for lengths in [[1, 2, 3], [2, 2, 2], [3, 1, 2], [1, 1, 1]]:
            book = Book(lengths)
            for many in range(4):
                ways = {}
                for heap in itertools.combinations_with_replacement(range(1, 8), many):
                    heaps = [heap]
                    counts = []
                    for again in range(3):
                        behind, up = beat_of_heap(book, heaps[-1])
                        heaps.append(behind)
                        counts.append(up)
                    ways[heaps[-1], tuple(counts)] = heaps
                for heap in itertools.combinations_with_replacement(range(1, 5), many):
                    for counts in itertools.product(range(5), repeat=3):
                        if (heap, counts) in ways:
                            self.assertEqual(heaps_back(book, heap, list(counts)), ways[heap, counts])
                        else:
                            with self.assertRaises(NoWay):
                                heaps_back(book, heap, list(counts))


class HistoriesTest(BackCase):
    def halls(self):
        numbers = chance(71)
        yield plain(2), (("a", 2), ("b", 2))
        yield Book([2, 2, 2]), (("a", 2), ("b", 2), ("c", 2))
        yield Book([1, 1, 1]), (("a", 1), ("b", 1), ("c", 1))
        yield Book([1, 2, 1]), (("a", 1), ("b", 2), ("c", 2))
        yield plain(1), ()
        for again in range(12):
            lengths, standing = some_hall(numbers, numbers.randint(1, 3), 3, 3)
            yield Book(lengths), standing

    def test_against_listing_all(self):
        told_in_all = 0
        for book, standing in self.halls():
            for beats in range(4):
                by_counts = {}
                for standings, ups in histories_of(book.lengths(), standing, beats):
                    rows = by_counts.setdefault(tuple(len(up) for up in ups), [])
                    rows.append(([tuple(up) for up in reversed(ups)], standings))
                for counts in itertools.product(range(len(book) + 2), repeat=beats):
                    if counts in by_counts:
                        meant = [standings for ups, standings in sorted(by_counts[counts])]
                        self.check(book, standing, list(counts), meant)
                        told_in_all += len(meant)
                    else:
                        with self.assertRaises(NoWay):
                            histories(book, standing, list(counts))
        self.assertGreater(told_in_all, 300)

    def check(self, book, standing, counts, meant):
        with self.subTest(book=book, standing=standing, counts=counts):
            self.assertEqual(histories(book, standing, counts), len(meant))
            told = [history(book, standing, counts, number) for number in range(len(meant))]
            self.assertEqual(told, meant)
            self.no_rows(book, standing, counts, [len(meant), len(meant) + 1, FAR])
            for number, standings in enumerate(told):
                self.assertEqual(number_of(book, standings), (counts, number))

    def test_of_one_standing(self):
        for book, standing in self.halls():
            self.assertEqual(histories(book, standing, []), 1)
            self.assertEqual(history(book, standing, [], 0), [standing])
            self.no_rows(book, standing, [], [1, 2, FAR])
            told = number_of(book, [standing])
            self.assertEqual(told, ([], 0))
            self.assertEqual([type(told), type(told[0]), type(told[1])], [tuple, list, int])

    def test_forty_sleepers_are_counted_by_a_product(self):
        names = names_of(40)
        standing = tuple((name, 7) for name in names)
        book = Book([7] * 40)
        self.assertEqual(histories(book, standing, [20]), math.comb(40, 20))
        # Behind the beat ahead the twenty have 1, the others 8: nobody has 7, and nobody was up then.
        self.assertEqual(histories(book, standing, [0, 20]), math.comb(40, 20))
        self.no_way(0, book, standing, [1, 20])
        first = history(book, standing, [20], 0)
        self.assertEqual(first[0], tuple((name, 1 if at < 20 else 8) for at, name in enumerate(names)))
        last = history(book, standing, [20], math.comb(40, 20) - 1)
        self.assertEqual(last[0], tuple((name, 1 if at >= 20 else 8) for at, name in enumerate(names)))
        self.no_rows(book, standing, [20], [math.comb(40, 20)])

    def test_great_numbers_there_and_back(self):
        numbers = chance(72)
        great = 0
        for again in range(60):
            many = numbers.randint(20, 40)
            lengths = [numbers.randint(1, 4) for one in range(many)]
            standing = tuple((name, numbers.randint(1, 6)) for name in names_of(many))
            beats = numbers.choice([1, 5, 20, 61])
            standings, ups = walk(lengths, standing, beats)
            book = Book(lengths)
            counts = [len(up) for up in ups[1:]]
            with self.subTest(lengths=lengths, standing=standing, beats=beats):
                self.assertEqual(number_of(book, standings)[0], counts)
                ways = histories(book, standings[-1], counts)
                self.assertLess(number_of(book, standings)[1], ways)
                self.assertEqual(history(book, standings[-1], counts, number_of(book, standings)[1]), standings)
                for number in [0, ways - 1, numbers.randrange(ways)]:
                    rows = history(book, standings[-1], counts, number)
                    self.assertEqual(len(rows), beats + 1)
                    self.assertEqual(rows[-1], standings[-1])
                    self.assertEqual(rows, walk(lengths, rows[0], beats)[0])
                    self.assertEqual(number_of(book, rows), (counts, number))
                self.no_rows(book, standings[-1], counts, [ways, ways + 1])
                great += ways > 10 ** 9
        self.assertGreater(great, 5)

    def test_the_last_beat_weighs_most(self):
        book = Book([1, 9, 9])
        standing = (("a", 1), ("b", 1), ("c", 1))
        # At each beat one was up of those that have 1 behind it: three at the last beat, that one at the beat ahead.
        self.assertEqual(histories(book, standing, [1]), 3)
        self.assertEqual(histories(book, standing, [1, 1]), 3)
        ups = []
        for number in range(3):
            rows = history(book, standing, [1, 1], number)
            ups.append([name for name, rest in rows[1] if rest == 1])
        self.assertEqual(ups, [["a"], ["b"], ["c"]])
        # Two that sleep 2, then one of three that have 1 at the last beat.
        book = Book([1, 2, 9, 9])
        standing = (("a", 1), ("b", 1), ("c", 1), ("d", 1))
        self.assertEqual(histories(book, standing, [2, 1]), 4 * 3)
        last = [[name for name, rest in history(book, standing, [2, 1], k)[1] if rest == 1] for k in range(12)]
        self.assertEqual(last, [["a"]] * 3 + [["b"]] * 3 + [["c"]] * 3 + [["d"]] * 3)
        first = [[name for name, rest in history(book, standing, [2, 1], k)[0] if rest == 1] for k in range(6)]
        self.assertEqual(first, [["b", "c"], ["b", "d"], ["c", "d"], ["a", "c"], ["a", "d"], ["c", "d"]])

    def test_rests_of_any_size(self):
        book = Book([10 ** 9])
        self.assertEqual(history(book, (("a", FAR),), [0, 0], 0), [(("a", FAR + 2),), (("a", FAR + 1),), (("a", FAR),)])
        self.assertEqual(number_of(book, [(("a", FAR + 1),), (("a", FAR),)]), ([0], 0))
        self.assertEqual(history(book, (("a", 10 ** 9),), [1], 0), [(("a", 1),), (("a", 10 ** 9),)])


class NotSoTest(unittest.TestCase):
    def not_so(self, book, standings):
        ahead = list(standings)
        with self.subTest(standings=standings), self.assertRaises(NotSo) as caught:
            number_of(book, standings)
        self.assertEqual(vars(caught.exception), {})
        self.assertEqual(standings, ahead)

    def test_each_standing_spoilt(self):
        book = plain(3)
        standings = walk([1, 2, 3], (("a", 1), ("b", 2), ("c", 3)), 6)[0]
        self.assertEqual(number_of(book, standings)[0], counts_of(book, (1, 2, 3), 6))
        for at in range(7):
            for part in range(3):
                name, rest = standings[at][part]
                for other in [rest + 1, rest + 2, FAR]:
                    spoilt = standings[at][:part] + ((name, other),) + standings[at][part + 1:]
                    # Another one may have led to the second just so; none is what the one ahead of it leads to.
                    if at > 0 or beat_of([1, 2, 3], spoilt)[0] != standings[1]:
                        self.not_so(book, standings[:at] + [spoilt] + standings[at + 1:])
        self.not_so(book, standings[::-1])
        self.not_so(book, standings[:2] + standings[3:])
        self.not_so(book, standings[:1] + standings[:1])

    def test_other_sleepers(self):
        book = plain(3)
        self.not_so(book, [(("a", 2),), (("b", 1),)])
        self.not_so(book, [(("a", 2),), ()])
        self.not_so(book, [(), (("a", 2),)])
        self.not_so(book, [(("a", 2),), (("a", 1), ("b", 1))])
        self.assertEqual(number_of(book, [(), (), ()]), ([0, 0], 0))


class NewListsTest(unittest.TestCase):
    def test_told_lists_are_new(self):
        book = Book([1, 2, 9, 9])
        standing = (("a", 1), ("b", 1), ("c", 1), ("d", 1))
        counts = [2, 1]
        rows = history(book, standing, counts, 7)
        for ask in [
            lambda: heaps_back(book, heap_of(standing), counts), lambda: history(book, standing, counts, 7),
            lambda: number_of(book, rows),
        ]:
            told, again = ask(), ask()
            self.assertEqual(told, again)
            spoil(told)
            self.assertEqual(ask(), again)
        self.assertEqual(counts, [2, 1])
        self.assertEqual(number_of(book, rows), ([2, 1], 7))
        self.assertEqual(len(rows), 3)


if __name__ == "__main__":
    unittest.main()
