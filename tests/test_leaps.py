"""Leaps: [40] to [42], with [2], [3], [5], [6], [9] and [13] for them."""

import math
import unittest

from plainly import chance, names_of, some_hall, spoil, walk
from sleepmany.beats import beat
from sleepmany.books import Book, plain, slower_book
from sleepmany.goings import parting_of
from sleepmany.leaps import all_told, beats_with, fallings, far, given_over, times_of, up_at, ups_from
from sleepmany.rests import rest_from, round_of
from sleepmany.standings import groups_of, heap_of, slower_standing, standing_of

FAR = 10 ** 30
# No two of nine sleepers with lengths to 6 and rests to 20 fall in behind 20 + 8 * 30 beats [6].
LONG = 300


def partition(standing):
    return {names for rest, names in groups_of(standing)}


def fallings_seen(standings, ups):
    """Who fell in with whom, read off the standings beat by beat."""
    told = []
    for at in range(1, len(standings)):
        for names in partition(standings[at]) - partition(standings[at - 1]):
            other = tuple(name for name in names if name not in ups[at])
            told.append((at, tuple(ups[at]), other))
    return told


def small_halls():
    numbers = chance(40)
    for many in [0, 1, 1, 2, 2, 2, 3, 3, 3, 4, 4, 5, 5, 6, 6, 7, 7, 8, 8, 9, 9, 9]:
        for longest, greatest in [(6, 20), (6, 6), (3, 4), (5, 9)]:
            yield some_hall(numbers, many, longest, greatest, spare=numbers.randint(0, 2))
    for many in range(1, 7):
        yield list(range(1, many + 1)), tuple((name, 1 + 3 * at % 7) for at, name in enumerate(names_of(many)))


def great_halls():
    """Forty sleepers and fewer, with lengths to 10 ** 9 and rests to 10 ** 18."""
    numbers = chance(41)
    for many, longest, greatest in [
        (40, 10 ** 9, 10 ** 18), (40, 30, 10 ** 18), (40, 10 ** 9, 50), (17, 10 ** 9, 10 ** 18), (2, 10 ** 9, 10 ** 18),
        (1, 10 ** 9, 10 ** 18), (40, 6, 40),
    ]:
        yield some_hall(numbers, many, longest, greatest)
    names = names_of(40)
    # Lengths with many common divisors, so that some groups fall in and some never do.
    lengths = [2 ** numbers.randint(1, 9) * 3 ** numbers.randint(1, 9) * 5 ** numbers.randint(0, 2) for name in names]
    yield lengths, tuple((name, numbers.randint(1, 10 ** 18)) for name in names)
    yield list(range(1, 41)), tuple((name, numbers.randint(1, 10 ** 18)) for name in names)
    yield [10 ** 9] * 40, tuple((name, 10 ** 18 - at) for at, name in enumerate(names))
    # Groups of unlike sizes from the beginning, so that they fall in with each other, most of them very late.
    for again in range(4):
        lengths = [numbers.randint(10 ** 8, 10 ** 9) for name in names]
        sizes = numbers.sample(range(1, 9), 8) + [4]
        rests = [numbers.randint(1, 10 ** 18) for size in sizes]
        yield lengths, tuple(zip(names, [rest for size, rest in zip(sizes, rests) for one in range(size)]))


class SmallHallsTest(unittest.TestCase):
    """Against going beat by beat, far enough that no two fall in any more."""

    def each(self, check):
        numbers = chance(42)
        for lengths, standing in small_halls():
            with self.subTest(lengths=lengths, standing=standing):
                beats = list(range(8)) + numbers.sample(range(8, LONG), 6) + [LONG]
                check(Book(lengths), standing, beats, *walk(lengths, standing, LONG + 200))

    def test_fallings(self):
        some = []

        def check(book, standing, beats, standings, ups):
            meant = fallings_seen(standings, ups)
            told = fallings(book, standing)
            self.assertEqual(told, meant)
            self.assertIs(type(told), list)
            for row in told:
                self.assertEqual([type(part) for part in row], [int, tuple, tuple])
            spoil(told)
            self.assertEqual(fallings(book, standing), meant)
            some.extend(meant)

        self.each(check)
        self.assertGreater(len(some), 100)

    def test_far(self):
        def check(book, standing, beats, standings, ups):
            for many in beats:
                told = far(book, standing, many)
                self.assertEqual(told, standings[many])
                self.assertEqual([type(told)] + [type(pair) for pair in told], [tuple] * (len(told) + 1))

        self.each(check)

    def test_far_about_each_falling_in(self):
        def check(book, standing, beats, standings, ups):
            for at, names, others in fallings(book, standing):
                for many in [at - 1, at, at + 1]:
                    self.assertEqual(far(book, standing, many), standings[many])
                self.assertEqual(up_at(book, standing, at), list(names))

        self.each(check)

    def test_up_at(self):
        def check(book, standing, beats, standings, ups):
            for at in beats[1:]:
                told = up_at(book, standing, at)
                self.assertEqual(told, ups[at])
                self.assertIs(type(told), list)
                spoil(told)
                self.assertEqual(up_at(book, standing, at), ups[at])

        self.each(check)

    def test_ups_from(self):
        def check(book, standing, beats, standings, ups):
            rows = [(at, tuple(up)) for at, up in enumerate(ups) if up]
            for at in beats[1:]:
                later = [row for row in rows if row[0] >= at]
                for many in [1, 2, 5, 20]:
                    told = ups_from(book, standing, at, many)
                    self.assertEqual(told, later[:many])
                    self.assertEqual(len(told), many if standing else 0)
                    spoil(told)
                    self.assertEqual(ups_from(book, standing, at, many), later[:many])

        self.each(check)

    def test_a_hundred_times(self):
        def check(book, standing, beats, standings, ups):
            if standing:
                rows = [(at, tuple(up)) for at, up in enumerate(ups) if up]
                self.assertEqual(ups_from(book, standing, 1, 100)[:len(rows)], rows[:100])
                self.assertEqual(len(ups_from(book, standing, 1, 100)), 100)

        self.each(check)

    def test_times_and_sums(self):
        def check(book, standing, beats, standings, ups):
            lengths = book.lengths()
            for many in beats:
                gone = ups[1:many + 1]
                for name, rest in standing:
                    self.assertEqual(times_of(book, standing, name, many), sum(name in up for up in gone))
                self.assertEqual(beats_with(book, standing, many), sum(1 for up in gone if up))
                self.assertEqual(all_told(book, standing, many), sum(len(up) for up in gone))
                given = sum(len(up) * lengths[len(up) - 1] for up in gone if up)
                self.assertEqual(given_over(book, standing, many), given)
                for ask in [beats_with, all_told, given_over]:
                    self.assertIs(type(ask(book, standing, many)), int)

        self.each(check)


class ToldTest(unittest.TestCase):
    def test_the_example(self):
        hall = standing_of([("a", 1), ("b", 1), ("c", 2), ("d", 2)])
        self.assertEqual(fallings(plain(4), hall), [])
        self.assertEqual(up_at(plain(4), hall, FAR), ["c", "d"])
        self.assertEqual(up_at(plain(4), hall, FAR - 1), ["a", "b"])
        self.assertEqual(far(plain(4), hall, FAR), hall)

    def test_c_called_in_the_example(self):
        behind = (("a", 3), ("b", 3), ("c", 3), ("d", 1))
        self.assertEqual(fallings(plain(4), behind), [(2, ("d",), ("a", "b", "c"))])
        self.assertEqual(ups_from(plain(4), behind, 1, 4), [
            (1, ("d",)), (2, ("d",)), (3, ("a", "b", "c", "d")), (7, ("a", "b", "c", "d")),
        ])
        self.assertEqual(far(plain(4), behind, FAR), tuple((name, 4 - (FAR - 3) % 4) for name in "abcd"))

    def test_nobody(self):
        for beats in [0, 1, 7, FAR]:
            self.assertEqual(far(plain(3), (), beats), ())
            self.assertEqual(beats_with(plain(3), (), beats), 0)
            self.assertEqual(all_told(plain(3), (), beats), 0)
            self.assertEqual(given_over(plain(3), (), beats), 0)
        self.assertEqual(fallings(plain(3), ()), [])
        self.assertEqual(up_at(plain(3), (), 1), [])
        self.assertEqual(up_at(plain(3), (), FAR), [])
        self.assertEqual(ups_from(plain(3), (), 1, 1), [])
        self.assertEqual(ups_from(plain(3), (), FAR, 100), [])

    def test_one(self):
        one = (("a", 10 ** 18),)
        book = Book([10 ** 9])
        self.assertEqual(far(book, one, 0), one)
        self.assertEqual(far(book, one, 1), (("a", 10 ** 18 - 1),))
        self.assertEqual(far(book, one, 10 ** 18), (("a", 10 ** 9),))
        self.assertEqual(far(book, one, FAR - 1), (("a", 1),))
        self.assertEqual(far(book, one, FAR), (("a", 10 ** 9),))
        self.assertEqual(times_of(book, one, "a", FAR), (FAR - 10 ** 18) // 10 ** 9 + 1)
        self.assertEqual(times_of(book, one, "a", 10 ** 18), 1)
        self.assertEqual(times_of(book, one, "a", 10 ** 18 - 1), 0)
        self.assertEqual(up_at(book, one, FAR), ["a"])
        self.assertEqual(ups_from(book, one, 1, 2), [(10 ** 18, ("a",)), (10 ** 18 + 10 ** 9, ("a",))])

    def test_two_that_fall_in_only_after_very_long(self):
        book = Book([10 ** 9, 7])
        # Both are alone with one length, so the second never catches up; with another rest they are one at once.
        self.assertEqual(fallings(book, (("a", 5), ("b", 6))), [])
        self.assertEqual(fallings(book, (("a", 5), ("b", 5 + 10 ** 9))), [(5, ("a",), ("b",))])
        self.assertEqual(fallings(book, (("a", 5), ("b", 5 + 10 ** 18))), [(5 + 10 ** 18 - 10 ** 9, ("a",), ("b",))])
        self.assertEqual(up_at(book, (("a", 5), ("b", 5 + 10 ** 18)), 5 + 10 ** 18 + 7 * 10 ** 9), ["a", "b"])

    def test_sleepers_that_have_one_rest_do_not_fall_in(self):
        self.assertEqual(fallings(plain(3), (("a", 4), ("b", 4), ("c", 4))), [])

    def test_the_one_who_is_up_is_told_first(self):
        self.assertEqual(fallings(Book([3, 5]), (("a", 1), ("b", 4))), [(1, ("a",), ("b",))])
        self.assertEqual(fallings(Book([3, 5]), (("a", 4), ("b", 1))), [(1, ("b",), ("a",))])

    def test_names_of_a_group_rise(self):
        told = fallings(Book([3, 5, 2]), (("a", 4), ("b", 1), ("c", 6)))
        self.assertEqual(told, [(1, ("b",), ("a",)), (6, ("c",), ("a", "b"))])


class FarHallsTest(unittest.TestCase):
    def each(self, check):
        for lengths, standing in great_halls():
            with self.subTest(lengths=lengths, standing=standing):
                check(Book(lengths), standing)

    def moments(self, book, standing):
        rows = fallings(book, standing)
        about = [rows[at][0] for at in sorted({0, len(rows) // 2, len(rows) - 1})] if rows else []
        return [0, 1, 10 ** 9, 10 ** 18, FAR - 1, FAR] + about

    def test_one_beat_is_what_the_beat_makes(self):
        def check(book, standing):
            for many in self.moments(book, standing):
                ahead = far(book, standing, many)
                behind, names = beat(book, ahead)
                self.assertEqual(far(book, standing, many + 1), behind)
                self.assertEqual(up_at(book, standing, many + 1), names)
                self.assertEqual(far(book, ahead, 1), behind)
                self.assertEqual(fallings(book, ahead), [
                    (at - many, up, others) for at, up, others in fallings(book, standing) if at > many
                ])

        self.each(check)

    def test_together_and_one_behind_another(self):
        numbers = chance(5)
        for lengths, standing in list(great_halls()) + list(small_halls())[::3]:
            book = Book(lengths)
            for again in range(3):
                one = numbers.randint(0, 10 ** numbers.choice([1, 2, 9, 18, 30]))
                other = numbers.randint(0, 10 ** numbers.choice([1, 2, 9, 18, 30]))
                with self.subTest(lengths=lengths, standing=standing, one=one, other=other):
                    self.assertEqual(far(book, far(book, standing, one), other), far(book, standing, one + other))
                    self.assertEqual(far(book, standing, 0), standing)

    def test_sums_over_two_stretches(self):
        def check(book, standing):
            name = standing[-1][0]
            for one, other in [(1, 10 ** 9), (10 ** 18 + 7, FAR), (FAR, FAR)]:
                between = far(book, standing, one)
                for ask in [beats_with, all_told, given_over]:
                    two = ask(book, standing, one) + ask(book, between, other)
                    self.assertEqual(ask(book, standing, one + other), two)
                two = times_of(book, standing, name, one) + times_of(book, between, name, other)
                self.assertEqual(times_of(book, standing, name, one + other), two)

        self.each(check)

    def test_all_told_is_each_ones_times(self):
        def check(book, standing):
            for many in [10 ** 9, FAR]:
                times = [times_of(book, standing, name, many) for name, rest in standing]
                self.assertEqual(all_told(book, standing, many), sum(times))

        self.each(check)

    def test_ups_from_far(self):
        def check(book, standing):
            for at in [1, 10 ** 18, FAR]:
                rows = ups_from(book, standing, at, 100)
                self.assertEqual(len(rows), 100)
                self.assertGreaterEqual(rows[0][0], at)
                ahead = far(book, standing, at - 1)
                self.assertEqual(rows[0][0], at - 1 + heap_of(ahead)[0])
                for moment, names in rows[::33]:
                    self.assertEqual(up_at(book, standing, moment), list(names))
                last = rows[-1][0]
                self.assertEqual(beats_with(book, standing, last) - beats_with(book, standing, at - 1), 100)

        self.each(check)

    def test_told_ones_are_handed_in_again(self):
        def check(book, standing):
            slow = slower_standing(slower_standing(standing, 1000), 1000)
            for again in range(3):
                slow = far(book, slow, 10 ** 20)
                self.assertEqual([name for name, rest in slow], [name for name, rest in standing])
            rows = fallings(book, slow)
            if rows:
                last = rows[-1][0]
                self.assertEqual(fallings(book, far(book, slow, last)), [])
                self.assertEqual(len(groups_of(far(book, slow, last))), len(groups_of(slow)) - len(rows))

        self.each(check)


class FallingInTest(unittest.TestCase):
    """[6]: how often and how late groups fall in, and what is left."""

    def greatest_multiple(self, lengths, many):
        return max(
            math.lcm(lengths[one - 1], lengths[other - 1])
            for one in range(1, many) for other in range(1, many - one + 1)
        )

    def test_fewer_times_than_groups_and_not_too_late(self):
        for lengths, standing in list(small_halls()) + list(great_halls()):
            with self.subTest(lengths=lengths, standing=standing):
                book = Book(lengths)
                rows = fallings(book, standing)
                groups = groups_of(standing)
                self.assertLessEqual(len(rows), max(0, len(groups) - 1))
                self.assertEqual(sorted({row[0] for row in rows}), [row[0] for row in rows])
                if rows:
                    late = heap_of(standing)[-1] + (len(groups) - 1) * self.greatest_multiple(lengths, len(standing))
                    self.assertLessEqual(rows[-1][0], late)

    def test_some_fall_in_very_late(self):
        late = [rest_from(Book(lengths), standing) for lengths, standing in great_halls()]
        self.assertGreater(max(late), 10 ** 17)

    def test_those_left_have_partings(self):
        parted = 0
        for lengths, standing in list(small_halls()) + list(great_halls()):
            with self.subTest(lengths=lengths, standing=standing):
                book = Book(lengths)
                last = far(book, standing, rest_from(book, standing))
                goings = [(rest, book.sleep(len(names))) for rest, names in groups_of(last)]
                for at, one in enumerate(goings):
                    for other in goings[:at]:
                        self.assertIsNotNone(parting_of(one, other))
                        parted += 1
        self.assertGreater(parted, 100)


class LedgerTest(unittest.TestCase):
    """[9]."""

    def test_given_and_rests(self):
        for lengths, standing in list(small_halls()) + list(great_halls()):
            book = Book(lengths)
            for many in [0, 1, 2, 3, 29, 300, 10 ** 9, 10 ** 18, FAR]:
                with self.subTest(lengths=lengths, standing=standing, many=many):
                    behind = far(book, standing, many)
                    left = given_over(book, standing, many) + sum(heap_of(standing))
                    self.assertEqual(left, len(standing) * many + sum(heap_of(behind)))

    def test_means_over_a_round_by_the_plain_book(self):
        numbers = chance(99)
        for many in [0, 1, 2, 3, 4, 6, 8, 9, 12, 16, 20, 30, 40]:
            book = plain(max(many, 1))
            standing = tuple((name, numbers.choice([2, 4, 6, 60])) for name in names_of(many))
            with self.subTest(standing=standing):
                lead, length = round_of(book, standing)
                begun = far(book, standing, lead)
                self.assertEqual(far(book, begun, length), begun)
                self.assertEqual(given_over(book, begun, length), many * length)
                self.assertEqual(all_told(book, begun, length), len(groups_of(begun)) * length)

    def test_bounds_by_the_plain_book(self):
        numbers = chance(98)
        for again in range(60):
            many = numbers.choice([1, 2, 3, 5, 9, 20, 40])
            book = plain(many)
            standing = tuple((name, numbers.randint(1, 30)) for name in names_of(many))
            for beats in [1, 2, 7, 100, FAR]:
                with self.subTest(standing=standing, beats=beats):
                    told = all_told(book, standing, beats)
                    self.assertLessEqual(told, many + len(groups_of(standing)) * (beats - 1))
                    rests = dict(standing)
                    behind = groups_of(far(book, standing, beats))
                    slept = sum(min(beats, min(rests[name] for name in names)) for rest, names in behind)
                    self.assertGreaterEqual(told, len(behind) * beats - slept)


class SlowerTest(unittest.TestCase):
    """[13], however far."""

    def test_the_slower_hall(self):
        numbers = chance(13)
        for lengths, standing in list(small_halls())[::4]:
            by = numbers.choice([1, 2, 3, 10, 1000])
            book, slower = Book(lengths), slower_book(Book(lengths), by)
            slow = slower_standing(standing, by)
            with self.subTest(lengths=lengths, standing=standing, by=by):
                self.assertEqual(fallings(slower, slow), [
                    (by * at, names, others) for at, names, others in fallings(book, standing)
                ])
                for many in [1, 2, 7, 50, 10 ** 18, FAR]:
                    self.assertEqual(far(slower, slow, by * many), slower_standing(far(book, standing, many), by))
                    self.assertEqual(up_at(slower, slow, by * many), up_at(book, standing, many))
                    if by > 1:
                        self.assertEqual(up_at(slower, slow, by * many + 1), [])
                        self.assertEqual(up_at(slower, slow, by * many - 1), [])
                    self.assertEqual(beats_with(slower, slow, by * many), beats_with(book, standing, many))
                    self.assertEqual(beats_with(slower, slow, by * many + by - 1), beats_with(book, standing, many))


if __name__ == "__main__":
    unittest.main()
