"""Numbers and fractions: [15], and [2] and [3] for them."""

import unittest
from fractions import Fraction

from plainly import chance
from sleepmany.numbers import divisor, fraction, inverse, multiple, order, total

PRIMES = [2, 3, 5, 7, 11, 13, 97, 101, 10 ** 9 + 7, 10 ** 18 + 9]


def product(powers):
    told = 1
    for prime, power in zip(PRIMES, powers):
        told *= prime ** power
    return told


def pairs_of_powers():
    numbers = chance(15)
    for again in range(200):
        yield tuple([numbers.choice([0, 0, 1, 2, 6, 10]) for prime in PRIMES] for both in "ab")


class NumbersCase(unittest.TestCase):
    def number(self, told, meant):
        self.assertIs(type(told), int)
        self.assertEqual(told, meant)

    def fraction(self, told, top, bottom):
        self.assertIs(type(told), tuple)
        self.assertEqual([type(part) for part in told], [int, int])
        self.assertEqual(told, (top, bottom))


class DivisorTest(NumbersCase):
    def test_small_pairs_against_trying_all_numbers(self):
        for one in range(1, 41):
            for other in range(1, 41):
                with self.subTest(one=one, other=other):
                    both = [k for k in range(1, 41) if one % k == 0 and other % k == 0]
                    self.number(divisor(one, other), max(both))
                    times = [k for k in range(1, one * other + 1) if k % one == 0 and k % other == 0]
                    self.number(multiple(one, other), min(times))

    def test_products_of_primes(self):
        longest = 0
        for one, other in pairs_of_powers():
            first, second = product(one), product(other)
            longest = max(longest, len(str(first)))
            with self.subTest(one=one, other=other):
                self.number(divisor(first, second), product(map(min, one, other)))
                self.number(multiple(first, second), product(map(max, one, other)))
        self.assertGreater(longest, 250)

    def test_powers(self):
        for prime in PRIMES[:8]:
            for low, high in [(0, 1), (1, 1), (3, 7), (40, 100), (100, 125)]:
                with self.subTest(prime=prime, low=low, high=high):
                    self.number(divisor(prime ** low, prime ** high), prime ** low)
                    self.number(divisor(prime ** high, prime ** low), prime ** low)
                    self.number(multiple(prime ** low, prime ** high), prime ** high)
                    self.number(multiple(prime ** high, prime ** low), prime ** high)

    def test_one_and_the_same(self):
        for number in [1, 2, 6, 10 ** 30, 7 ** 300]:
            self.number(divisor(number, number), number)
            self.number(multiple(number, number), number)
            self.number(divisor(1, number), 1)
            self.number(divisor(number, 1), 1)
            self.number(multiple(1, number), number)
            self.number(multiple(number, 1), number)

    def test_two_that_follow_each_other_in_a_long_row(self):
        one, other = 1, 1
        for again in range(1200):
            one, other = other, one + other
        self.number(divisor(one, other), 1)
        self.number(multiple(one, other), one * other)
        self.number(divisor(6 * one, 6 * other), 6)


class FractionTest(NumbersCase):
    def test_small_ones(self):
        for top in range(0, 41):
            for bottom in range(1, 41):
                with self.subTest(top=top, bottom=bottom):
                    worth = Fraction(top, bottom)
                    self.fraction(fraction(top, bottom), worth.numerator, worth.denominator)

    def test_nought_is_one_fraction(self):
        for bottom in [1, 2, 12, 10 ** 30, 7 ** 300]:
            self.fraction(fraction(0, bottom), 0, 1)

    def test_of_any_size(self):
        for one, other in pairs_of_powers():
            lower = [power - min(both) for power, both in zip(one, zip(one, other))]
            under = [power - min(both) for power, both in zip(other, zip(one, other))]
            with self.subTest(one=one, other=other):
                self.fraction(fraction(product(one), product(other)), product(lower), product(under))

    def test_whole_ones(self):
        self.fraction(fraction(12, 4), 3, 1)
        self.fraction(fraction(10 ** 300, 10 ** 299), 10, 1)
        self.fraction(fraction(5, 5), 1, 1)


class TotalTest(NumbersCase):
    def test_none_to_nine(self):
        numbers = chance(9)
        for many in range(10):
            for again in range(40):
                fractions = [
                    numbers.choice([(0, 1), (1, 1), (7, 1), fraction(numbers.randint(0, 30), numbers.randint(1, 30))])
                    for one in range(many)
                ]
                with self.subTest(fractions=fractions):
                    ahead = list(fractions)
                    worth = sum((Fraction(*one) for one in fractions), Fraction(0))
                    self.fraction(total(fractions), worth.numerator, worth.denominator)
                    self.assertEqual(fractions, ahead)

    def test_none_and_noughts(self):
        self.fraction(total([]), 0, 1)
        self.fraction(total([(0, 1)]), 0, 1)
        self.fraction(total([(0, 1)] * 9), 0, 1)

    def test_they_come_to_lowest_terms(self):
        self.fraction(total([(1, 6), (1, 3), (1, 2)]), 1, 1)
        self.fraction(total([(1, 6), (1, 6)]), 1, 3)
        self.fraction(total([(1, 6), (1, 10), (1, 15)]), 1, 3)
        self.fraction(total([(2, 3)]), 2, 3)

    def test_great_ones(self):
        fractions = [fraction(product(one), product(other)) for one, other in pairs_of_powers()][:9]
        worth = sum(Fraction(*one) for one in fractions)
        self.fraction(total(fractions), worth.numerator, worth.denominator)

    def test_forty(self):
        self.fraction(total([(1, 40)] * 40), 1, 1)


class OrderTest(NumbersCase):
    def both_ways(self, one, other, meant):
        with self.subTest(one=one, other=other):
            self.number(order(one, other), meant)
            self.number(order(other, one), -meant)

    def test_small_ones(self):
        small = [fraction(top, bottom) for top in range(8) for bottom in range(1, 8)]
        for one in small:
            for other in small:
                left, right = Fraction(*one), Fraction(*other)
                self.both_ways(one, other, (left > right) - (left < right))

    def test_great_ones_that_lie_close(self):
        great = 10 ** 250
        self.both_ways((great, great + 1), (great + 1, great + 2), -1)
        self.both_ways((great + 2, great + 1), (great + 1, great), -1)
        self.both_ways((great, 1), (great + 1, 1), -1)
        self.both_ways((1, great), (1, great + 1), 1)
        self.both_ways((great, great + 1), (great, great + 1), 0)
        self.both_ways((0, 1), (1, great), -1)


class InverseTest(NumbersCase):
    def test_times_the_number_it_leaves_one(self):
        for by in range(1, 40):
            for number in range(1, 80):
                if divisor(number, by) == 1:
                    with self.subTest(number=number, by=by):
                        told = inverse(number, by)
                        self.assertIn(told, range(by))
                        self.assertEqual(number * told % by, 1 % by)


if __name__ == "__main__":
    unittest.main()
