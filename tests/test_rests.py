"""Standings at rest: [50] to [53], with [2], [3], [4], [7], [8] and [13] for them."""

import itertools
import math
import unittest
from fractions import Fraction

from plainly import NO_NUMBERS, chance, names_of, some_hall, spoil, walk
from sleepmany.books import Book, plain, slower_book
from sleepmany.errors import NotSo
from sleepmany.goings import is_parting
from sleepmany.leaps import far, up_at
from sleepmany.rests import is_at_rest, is_paper, paper_of, rest_from, round_of, shares
from sleepmany.standings import groups_of, slower_standing, standing_of

FAR = 10 ** 30
# Behind it no two of nine sleepers with lengths to 6 and rests to 20 fall in [6], and each has been up.
LATE = 20 + 8 * 30
EXAMPLE = (("a", 1), ("b", 1), ("c", 2), ("d", 2))


def small_halls():
    numbers = chance(50)
    for many in [0, 1, 1, 2, 2, 2, 3, 3, 3, 4, 4, 4, 5, 5, 6, 6, 7, 8, 9]:
        for longest, greatest in [(6, 20), (6, 6), (3, 4), (4, 12)]:
            yield some_hall(numbers, many, longest, greatest, spare=numbers.randint(0, 2))
    for many in [2, 3, 4, 5, 6, 8, 9]:
        # Lengths that are all even: many of these halls are at rest.
        lengths = [2 * numbers.randint(1, 3) for again in range(many)]
        for greatest in [2, 4, 6]:
            yield lengths, tuple((name, numbers.randint(1, greatest)) for name in names_of(many))


def hall_of_sizes(sizes, rests):
    """A standing with a group of each size, with these rests."""
    names = names_of(sum(sizes))
    pairs = []
    for size, rest in zip(sizes, rests):
        pairs += [(names.pop(), rest) for again in range(size)]
    return standing_of(pairs)


# Forty sleepers in four groups that never meet, and the same very far.
FORTY = hall_of_sizes([4, 8, 12, 16], [1, 2, 3, 4])
THIRTY_ONE = hall_of_sizes([6, 10, 15], [6, 9, 13])


class RestCase(unittest.TestCase):
    def each(self, check):
        for lengths, standing in small_halls():
            with self.subTest(lengths=lengths, standing=standing):
                check(Book(lengths), standing, walk(lengths, standing, LATE + 130)[0])


class AtRestTest(RestCase):
    def rest_seen(self, standings):
        """The least beat behind which the groups stay the same."""
        last = 0
        for at in range(1, len(standings)):
            if {names for rest, names in groups_of(standings[at])} != {
                names for rest, names in groups_of(standings[at - 1])
            }:
                last = at
        return last

    def test_small_halls(self):
        seen = []

        def check(book, standing, standings):
            meant = self.rest_seen(standings)
            told = rest_from(book, standing)
            self.assertIs(type(told), int)
            self.assertEqual(told, meant)
            for at in {0, 1, 2, 5, max(0, meant - 1), meant, meant + 1}:
                self.assertIs(is_at_rest(book, standings[at]), at >= meant)
                self.assertEqual(rest_from(book, standings[at]), max(0, meant - at))
            seen.append(meant)

        self.each(check)
        self.assertGreater(seen.count(0), 10)
        self.assertGreater(len(seen) - seen.count(0), 10)

    def test_nobody_and_one(self):
        for standing in [(), (("a", 7),), (("a", 10 ** 60),), (("a", 3), ("b", 3))]:
            self.assertIs(is_at_rest(plain(3), standing), True)
            self.assertEqual(rest_from(plain(3), standing), 0)

    def test_the_example(self):
        self.assertIs(is_at_rest(plain(4), EXAMPLE), True)
        self.assertEqual(rest_from(plain(4), EXAMPLE), 0)
        self.assertIs(is_at_rest(plain(4), (("a", 3), ("b", 3), ("c", 3), ("d", 1))), False)
        self.assertEqual(rest_from(plain(4), (("a", 3), ("b", 3), ("c", 3), ("d", 1))), 2)

    def test_great_ones(self):
        self.assertIs(is_at_rest(plain(40), FORTY), True)
        for by in [1, 1000]:
            slow = slower_standing(FORTY, by)
            self.assertIs(is_at_rest(slower_book(plain(40), by), slow), True)
        book = Book([10 ** 9, 5])
        self.assertEqual(rest_from(book, (("a", 5), ("b", 5 + 10 ** 40))), 5 + 10 ** 40 - 10 ** 9)
        self.assertIs(is_at_rest(book, (("a", 5), ("b", 6 + 10 ** 40))), True)


class PaperTest(RestCase):
    def goings(self, book, standing):
        return [(rest, book.sleep(len(names))) for rest, names in groups_of(standing)]

    def test_papers_are_told_by_places_with_the_greatest_numbers(self):
        papers = []

        def check(book, standing, standings):
            for at in [0, 3, LATE]:
                there = standings[at]
                if not is_at_rest(book, there):
                    with self.assertRaises(NotSo):
                        paper_of(book, there)
                    continue
                goings = self.goings(book, there)
                told = paper_of(book, there)
                self.assertIs(type(told), list)
                self.assertEqual([row[:2] for row in told], list(itertools.combinations(range(len(goings)), 2)))
                for i, j, number in told:
                    self.assertEqual(number, math.gcd(goings[i][1], goings[j][1]))
                    self.assertTrue(is_parting(goings[i], goings[j], number))
                self.assertEqual({type(row) for row in told} - {tuple}, set())
                self.assertIs(is_paper(book, there, told), True)
                papers.append(len(told))
                spoil(told)
                self.assertIs(is_paper(book, there, told), False)
                self.assertIs(is_paper(book, there, paper_of(book, there)), True)

        self.each(check)
        self.assertGreater(max(papers), 2)

    def test_told_papers(self):
        self.assertEqual(paper_of(plain(4), EXAMPLE), [(0, 1, 2)])
        self.assertEqual(paper_of(plain(31), THIRTY_ONE), [(0, 1, 2), (0, 2, 3), (1, 2, 5)])
        self.assertEqual(paper_of(plain(4), ()), [])
        self.assertEqual(paper_of(plain(4), (("a", 9),)), [])
        self.assertEqual(len(paper_of(plain(40), FORTY)), 6)

    def test_not_so_where_two_meet(self):
        for standing in [
            (("a", 1), ("b", 2)), (("a", 1), ("b", 2), ("c", 2)), hall_of_sizes([6, 10, 15], [1, 3, 2]),
            hall_of_sizes([4, 8, 12, 16], [1, 2, 3, 5]),
        ]:
            with self.assertRaises(NotSo) as caught:
                paper_of(plain(40), standing)
            self.assertEqual(vars(caught.exception), {})

    def test_in_any_order_and_with_lesser_numbers(self):
        for paper in itertools.permutations([(0, 1, 2), (0, 2, 3), (1, 2, 5)]):
            self.assertIs(is_paper(plain(31), THIRTY_ONE, list(paper)), True)
        # The rests 1 and 2 by 4 and 8: 4 and 2 both part them, 1 and 8 don't.
        two = hall_of_sizes([4, 8], [1, 2])
        for number, meant in [(1, False), (2, True), (3, False), (4, True), (8, False), (0, False), (-2, False)]:
            self.assertIs(is_paper(plain(12), two, [(0, 1, number)]), meant)
        # By 2 the rests 1 and 3 are alike, by 4 not.
        two = hall_of_sizes([4, 8], [1, 3])
        for number, meant in [(2, False), (4, True)]:
            self.assertIs(is_paper(plain(12), two, [(0, 1, number)]), meant)

    def test_spoilt_in_each_part(self):
        good = [(0, 1, 2), (0, 2, 3), (1, 2, 5)]
        for at in range(3):
            row = good[at]
            for part in range(3):
                for other in NO_NUMBERS + [-1, -2, 0, 1, 2, 3, 4, 5, 6, 7, 30, 10 ** 40]:
                    spoilt = row[:part] + (other,) + row[part + 1:]
                    if isinstance(other, bool) or spoilt != row:
                        paper = good[:at] + [spoilt] + good[at + 1:]
                        with self.subTest(paper=paper):
                            self.assertIs(is_paper(plain(31), THIRTY_ONE, paper), False)

    def test_rows_left_out_twice_and_one_more(self):
        good = [(0, 1, 2), (0, 2, 3), (1, 2, 5)]
        for paper in [
            [], good[:2], good[1:], good + good[:1], good + good, good[:2] + good[:1], good + [(0, 0, 1)],
            good + [(1, 0, 2)], [(1, 0, 2)] + good[1:], good + [(0, 3, 2)], good + [()], good + [None],
            good + [(-1, 0, 2)], good + [(-3, -2, 2)], [(-3, -2, 2), (0, 2, 3), (1, 2, 5)],
            good[:2] + [(-1, 1, 5)], good[:2] + [(-2, 2, 5)], good[:2] + [(1, -1, 5)], good[:2] + [(-2, -1, 5)],
        ]:
            with self.subTest(paper=paper):
                self.assertIs(is_paper(plain(31), THIRTY_ONE, paper), False)

    def test_what_is_no_list_or_has_other_rows(self):
        good = [(0, 1, 2), (0, 2, 3), (1, 2, 5)]
        for thing in NO_NUMBERS + [0, 1, tuple(good), dict.fromkeys(good), [list(row) for row in good], "[(0, 1, 2)]"]:
            with self.subTest(thing=thing):
                self.assertIs(is_paper(plain(31), THIRTY_ONE, thing), False)
        for part in NO_NUMBERS + [0, (0, 1), (0, 1, 2, 2), [0, 1, 2], ((0, 1), 2)]:
            for paper in [[part], [part] + good[1:], good[:2] + [part], good + [part]]:
                with self.subTest(paper=paper):
                    self.assertIs(is_paper(plain(31), THIRTY_ONE, paper), False)
        self.assertIs(is_paper(plain(31), THIRTY_ONE, [(0, 1, 2)] * 2700), False)

    def test_of_few_groups(self):
        for standing in [(), (("a", 5),), (("a", 5), ("b", 5))]:
            self.assertIs(is_paper(plain(4), standing, []), True)
            for thing in [None, (), {}, "", 0, False, [()], [(0, 0, 1)], [(0, 1, 2)], [[]]]:
                self.assertIs(is_paper(plain(4), standing, thing), False)

    def test_where_two_meet_there_is_none(self):
        two = (("a", 1), ("b", 2), ("c", 2))
        for number in range(-2, 8):
            self.assertIs(is_paper(plain(3), two, [(0, 1, number)]), False)
        self.assertIs(is_paper(plain(3), two, []), False)

    def test_the_paper_is_as_it_was(self):
        paper = [(1, 2, 5), (0, 2, 3), (0, 1, 2)]
        is_paper(plain(31), THIRTY_ONE, paper)
        self.assertEqual(paper, [(1, 2, 5), (0, 2, 3), (0, 1, 2)])


class SharesTest(RestCase):
    def test_small_halls(self):
        def check(book, standing, standings):
            for there in standings[:12] + standings[LATE:LATE + 3]:
                worth = sum((Fraction(1, book.sleep(len(names))) for rest, names in groups_of(there)), Fraction(0))
                told = shares(book, there)
                self.assertIs(type(told), tuple)
                self.assertEqual(told, (worth.numerator, worth.denominator))
                if is_at_rest(book, there):
                    self.assertLessEqual(worth, 1)

        self.each(check)

    def test_told_ones(self):
        self.assertEqual(shares(plain(4), ()), (0, 1))
        self.assertEqual(shares(plain(4), EXAMPLE), (1, 1))
        self.assertEqual(shares(plain(31), THIRTY_ONE), (1, 3))
        self.assertEqual(shares(Book([10 ** 9]), (("a", 10 ** 60),)), (1, 10 ** 9))
        self.assertEqual(shares(plain(3), (("a", 1), ("b", 2), ("c", 3))), (3, 1))

    def test_groups_times_themselves_are_no_more_than_sleepers(self):
        numbers = chance(7)
        for again in range(150):
            many = numbers.choice([4, 6, 9, 12, 16, 25, 30, 36, 40])
            standing = tuple((name, numbers.choice([2, 4, 6, 8, 12, 3])) for name in names_of(many))
            last = far(plain(many), standing, rest_from(plain(many), standing))
            sizes = [len(names) for rest, names in groups_of(last)]
            with self.subTest(standing=standing):
                self.assertLessEqual(len(sizes) ** 2, many)
                self.assertEqual(len(sizes) ** 2 == many, set(sizes) == {len(sizes)})

    def test_squares_have_a_standing_with_as_many(self):
        for root in range(1, 7):
            standing = hall_of_sizes([root] * root, range(1, root + 1))
            self.assertEqual(len(standing), root * root)
            self.assertIs(is_at_rest(plain(root * root), standing), True)
            self.assertEqual(len(groups_of(standing)), root)
            self.assertEqual(shares(plain(root * root), standing), (1, 1))


class RoundTest(RestCase):
    def test_small_halls(self):
        leads = []

        def check(book, standing, standings):
            first = {}
            for at, there in enumerate(standings):
                if there in first:
                    meant = (first[there], at - first[there])
                    break
                first[there] = at
            told = round_of(book, standing)
            self.assertEqual([type(told), type(told[0]), type(told[1])], [tuple, int, int])
            self.assertEqual(told, meant)
            leads.append(told[0] - rest_from(book, standing))

        self.each(check)
        self.assertGreater(max(leads), 0)
        self.assertGreater(leads.count(0), 10)

    def test_told_ones(self):
        self.assertEqual(round_of(plain(4), ()), (0, 1))
        self.assertEqual(round_of(plain(4), EXAMPLE), (0, 2))
        self.assertEqual(round_of(plain(31), THIRTY_ONE), (0, 30))
        self.assertEqual(round_of(Book([5]), (("a", 5),)), (0, 5))
        self.assertEqual(round_of(Book([5]), (("a", 6),)), (1, 5))
        self.assertEqual(round_of(Book([5]), (("a", 10 ** 60),)), (10 ** 60 - 5, 5))

    def test_the_rest_at_the_last_falling_in_may_be_longer_than_its_length(self):
        # a falls in with b at beat 1 with rest 9; together they sleep 2 only.
        self.assertEqual(round_of(Book([9, 2]), (("a", 1), ("b", 10))), (8, 2))

    def test_great_ones(self):
        lengths = [2 * 3, 2 * 5, 2 * 7, 2 * 11, 2 * 13]
        book = Book([10 ** 9 - 1] * 40)
        standing = tuple((name, 10 ** 18 - at) for at, name in enumerate(names_of(40)))
        self.assertEqual(round_of(book, standing), (10 ** 18 - 10 ** 9 + 1, 10 ** 9 - 1))
        book = Book(lengths)
        standing = (("a", 2), ("b", 1), ("c", 1))
        lead, length = round_of(book, standing)
        self.assertEqual(far(book, standing, lead + FAR * length), far(book, standing, lead))

    def test_it_comes_again_and_not_earlier(self):
        numbers = chance(53)
        for again in range(40):
            lengths, standing = some_hall(numbers, 6, 10 ** 4, 10 ** 6)
            book = Book(lengths)
            lead, length = round_of(book, standing)
            with self.subTest(lengths=lengths, standing=standing):
                there = far(book, standing, lead)
                self.assertEqual(far(book, there, length), there)
                for prime in [2, 3, 5, 7, 11, 13]:
                    if length % prime == 0:
                        self.assertNotEqual(far(book, there, length // prime), there)
                if lead > 0:
                    ahead = far(book, standing, lead - 1)
                    self.assertNotEqual(far(book, ahead, length), ahead)


class PrimeHallsTest(unittest.TestCase):
    """[8], for halls as they go."""

    def test_a_prime_comes_to_be_one_group(self):
        numbers = chance(8)
        for prime in [2, 3, 5, 7, 11, 13, 17, 19, 23, 29]:
            for again in range(12):
                greatest = numbers.choice([prime, 60, 10 ** 18])
                standing = tuple((name, numbers.randint(1, greatest)) for name in names_of(prime))
                with self.subTest(standing=standing):
                    book = plain(prime)
                    late = rest_from(book, standing)
                    self.assertEqual(len(groups_of(far(book, standing, late))), 1)
                    lead, length = round_of(book, standing)
                    self.assertEqual(length, prime)
                    ups = [beat for beat in range(lead + 1, lead + prime + 1) if up_at(book, standing, beat)]
                    self.assertEqual(len(ups), 1)
                    self.assertEqual(up_at(book, standing, ups[0] + FAR * prime), names_of(prime))

    def test_thirty_one(self):
        self.assertIs(is_at_rest(plain(31), THIRTY_ONE), True)
        self.assertEqual(len(groups_of(far(plain(31), THIRTY_ONE, FAR))), 3)


class SlowerTest(unittest.TestCase):
    """[13]."""

    def test_the_slower_hall(self):
        for lengths, standing in list(small_halls())[::3]:
            for by in [2, 7, 1000]:
                book, slower = Book(lengths), slower_book(Book(lengths), by)
                slow = slower_standing(standing, by)
                with self.subTest(lengths=lengths, standing=standing, by=by):
                    self.assertEqual(rest_from(slower, slow), by * rest_from(book, standing))
                    self.assertEqual(is_at_rest(slower, slow), is_at_rest(book, standing))
                    self.assertEqual(round_of(slower, slow)[1], by * round_of(book, standing)[1] if standing else 1)
                    worth = Fraction(*shares(book, standing)) / by
                    self.assertEqual(shares(slower, slow), (worth.numerator, worth.denominator))


if __name__ == "__main__":
    unittest.main()
