"""Goings: [30] to [33], with [2] and [3] for them."""

import math
import unittest

from plainly import NO_NUMBERS, chance, spoil
from sleepmany.goings import (
    falling_in, is_parting, last_up, meeting, next_up, parting_of, rest_behind, times_up,
)

SMALL = [(first, length) for first in range(1, 9) for length in range(1, 8)]
FAR = 10 ** 30


def ups_to(going, beats):
    first, length = going
    return [beat for beat in range(1, beats + 1) if beat >= first and (beat - first) % length == 0]


def rests_to(going, beats):
    """The rests behind 0, 1, .. beats, gone through beat by beat."""
    rest, length = going
    rests = [rest]
    for again in range(beats):
        rest = length if rest == 1 else rest - 1
        rests.append(rest)
    return rests


def great_goings(seed, many):
    numbers = chance(seed)
    for again in range(many):
        figures = numbers.choice([1, 2, 5, 9, 18, 25, 40])
        first = numbers.randint(1, 10 ** figures)
        length = numbers.choice([numbers.randint(1, 10 ** 9), numbers.randint(1, 60), 10 ** 9, 1])
        yield numbers, (first, length)


class GoingsCase(unittest.TestCase):
    def number(self, told, meant):
        self.assertIs(type(told), int)
        self.assertEqual(told, meant)


class OneGoingTest(GoingsCase):
    def test_small_ones_beat_by_beat(self):
        for going in SMALL:
            rests = rests_to(going, 40)
            for beats in range(41):
                with self.subTest(going=going, beats=beats):
                    self.number(rest_behind(going, beats), rests[beats])
                    ups = ups_to(going, beats)
                    self.number(times_up(going, beats), len(ups))
                    if beats > 0:
                        self.number(last_up(going, beats), max([0] + ups_to(going, beats - 1)))

    def test_far_ones(self):
        for numbers, (first, length) in great_goings(30, 300):
            going = (first, length)
            turns = numbers.choice([0, 1, 2, numbers.randint(0, 10 ** 9), (FAR - first) // length if first < FAR else 0])
            late = numbers.choice([0, length - 1, numbers.randint(0, length - 1)])
            beat = first + turns * length + late
            with self.subTest(going=going, beat=beat):
                self.number(rest_behind(going, beat), length - late)
                self.number(times_up(going, beat), turns + 1)
                ahead = first + turns * length
                if late == 0:
                    ahead = ahead - length if turns else 0
                self.number(last_up(going, beat), ahead)

    def test_ahead_of_the_first(self):
        for numbers, going in great_goings(31, 100):
            first = going[0]
            for beats in [0, first // 2, first - 1]:
                with self.subTest(going=going, beats=beats):
                    self.number(rest_behind(going, beats), first - beats)
                    self.number(times_up(going, beats), 0)
                    self.number(last_up(going, beats + 1), 0)

    def test_just_ten_to_the_thirty(self):
        self.number(rest_behind((1, 10 ** 9), FAR), 1)
        self.number(times_up((1, 1), FAR), FAR)
        self.number(times_up((1, 10 ** 9), FAR), 10 ** 21)
        self.number(last_up((1, 10 ** 9), FAR), FAR - 10 ** 9 + 1)
        self.number(last_up((10 ** 18, 1), FAR), FAR - 1)

    def test_what_is_told_is_handed_in_again(self):
        going = (7, 10 ** 9)
        for again in range(20):
            beat = meeting(going, (1, 10 ** 9 - 1)) if again % 2 else next_up([going], going[0] * 10 ** 4)[0]
            going = (beat, 10 ** 9)
        self.assertGreater(going[0], FAR)
        self.number(rest_behind(going, going[0]), 10 ** 9)
        self.number(rest_behind(going, going[0] - 1), 1)
        self.number(times_up(going, going[0] * 2), going[0] // 10 ** 9 + 1)


class NextUpTest(GoingsCase):
    def told(self, goings, beat, meant):
        with self.subTest(goings=goings, beat=beat):
            ahead = list(goings)
            told = next_up(goings, beat)
            self.assertEqual([type(told), type(told[0]), type(told[1])], [tuple, int, list])
            self.assertEqual(told, meant)
            self.assertEqual(goings, ahead)
            spoil(told)
            self.assertEqual(next_up(goings, beat), meant)

    def test_lists_of_one_to_forty_beat_by_beat(self):
        numbers = chance(32)
        for many in list(range(1, 41)) + [1, 2, 3] * 10:
            goings = [numbers.choice(SMALL + [(30, 20), (25, 9)]) for again in range(many)]
            for beat in range(0, 40, numbers.randint(1, 5)):
                at = beat + 1
                while not any(at in ups_to(going, at) for going in goings):
                    at += 1
                self.told(goings, beat, (at, [k for k, going in enumerate(goings) if at in ups_to(going, at)]))

    def test_alone(self):
        self.told([(5, 3)], 0, (5, [0]))
        self.told([(5, 3)], 4, (5, [0]))
        self.told([(5, 3)], 5, (8, [0]))
        self.told([(5, 3)], 7, (8, [0]))

    def test_far_ones(self):
        self.told([(1, 10 ** 9)] * 3, FAR, (FAR + 1, [0, 1, 2]))
        self.told([(1, 10 ** 9), (2, 10 ** 9), (FAR, 5)], FAR, (FAR + 1, [0]))
        self.told([(2, 10 ** 9), (FAR + 2, 5), (3, 10 ** 9)], FAR, (FAR + 2, [0, 1]))
        self.told([(10 ** 40, 1), (10 ** 41, 1)], 0, (10 ** 40, [0]))
        self.told([(10 ** 18, 10 ** 9)] * 40, 10 ** 18, (10 ** 18 + 10 ** 9, list(range(40))))


class TwoGoingsTest(GoingsCase):
    def two_small(self, one, other):
        ups = set(ups_to(one, 120))
        common = [beat for beat in ups_to(other, 120) if beat in ups]
        if not common:
            return None, None
        rests = [beat for beat, (left, right) in enumerate(zip(rests_to(one, 120), rests_to(other, 120))) if left == right]
        return min(common), min(rests)

    def test_small_ones_beat_by_beat(self):
        for one in SMALL:
            for other in SMALL:
                with self.subTest(one=one, other=other):
                    meets, falls = self.two_small(one, other)
                    self.assertEqual(meeting(one, other), meets)
                    self.assertEqual(falling_in(one, other), falls)
                    shared = math.gcd(one[1], other[1])
                    self.assertEqual(parting_of(one, other), shared if meets is None else None)
                    for told in [meeting(one, other), falling_in(one, other), parting_of(one, other)]:
                        self.assertIn(type(told), [int, type(None)])

    def meet_as_told(self, one, other):
        beat = meeting(one, other)
        late = max(one[0], other[0])
        self.assertGreaterEqual(beat, late)
        self.assertLess(beat - math.lcm(one[1], other[1]), late)
        for first, length in [one, other]:
            self.assertEqual((beat - first) % length, 0)
        falls = falling_in(one, other)
        self.assertLess(falls, beat)
        for behind in [falls, (falls + beat) // 2, beat - 1]:
            self.assertEqual(rest_behind(one, behind), beat - behind)
            self.assertEqual(rest_behind(other, behind), beat - behind)
        for behind in [falls - 1, falls // 2, 0]:
            if 0 <= behind < falls:
                self.assertNotEqual(rest_behind(one, behind), rest_behind(other, behind))

    def test_far_ones_either_way_about(self):
        met = parted = 0
        for numbers, one in great_goings(33, 600):
            length = numbers.choice([one[1], 10 ** 9, 7 * numbers.randint(1, 10 ** 8), numbers.randint(1, 99)])
            shared = math.gcd(one[1], length)
            first = numbers.randint(1, 10 ** numbers.choice([2, 9, 18, 40]))
            if numbers.random() < 0.7:
                first += (one[0] - first) % shared
            other = (first, length)
            with self.subTest(one=one, other=other):
                if (one[0] - first) % shared == 0:
                    met += 1
                    self.meet_as_told(one, other)
                    self.assertIsNone(parting_of(one, other))
                    self.assertFalse(is_parting(one, other, shared))
                else:
                    parted += 1
                    self.assertIsNone(meeting(one, other))
                    self.assertIsNone(falling_in(one, other))
                    self.number(parting_of(one, other), shared)
                    self.assertIs(is_parting(one, other, shared), True)
                for ask in [meeting, falling_in, parting_of]:
                    self.assertEqual(ask(one, other), ask(other, one))
        self.assertGreater(met, 100)
        self.assertGreater(parted, 50)

    def test_told_ones(self):
        self.number(meeting((1, 2), (2, 3)), 5)
        self.number(falling_in((1, 2), (2, 3)), 3)
        self.number(meeting((1, 10 ** 9), (2, 10 ** 9 - 1)), 1 + 10 ** 9)
        self.number(meeting((2, 10 ** 9), (1, 10 ** 9 - 1)), 2 + 10 ** 9 * (10 ** 9 - 2))
        self.number(meeting((10 ** 18, 1), (1, 7)), 10 ** 18 + (1 - 10 ** 18) % 7)
        self.assertIsNone(meeting((1, 2), (2, 2)))
        self.assertIsNone(falling_in((1, 2), (2, 4)))
        self.number(parting_of((1, 2), (2, 4)), 2)

    def test_the_same_going_has_one_rest_from_the_beginning(self):
        for going in SMALL + [(10 ** 40, 10 ** 9)]:
            self.number(meeting(going, going), going[0])
            self.number(falling_in(going, going), 0)
            self.number(falling_in(going, (going[0], 12)), 0)
            self.assertIsNone(parting_of(going, going))


class PartingTest(GoingsCase):
    def test_small_ones_against_trying_all_numbers(self):
        for one in SMALL:
            for other in SMALL:
                partings = [
                    k for k in range(1, 10)
                    if one[1] % k == 0 and other[1] % k == 0 and one[0] % k != other[0] % k
                ]
                with self.subTest(one=one, other=other):
                    for number in range(-9, 15):
                        self.assertIs(is_parting(one, other, number), number in partings)
                    self.assertEqual(parting_of(one, other) is None, not partings)

    def test_whatever_is_handed_in(self):
        for one, other in [((1, 6), (2, 6)), ((1, 1), (1, 1)), ((1, 4), (2, 8))]:
            for thing in NO_NUMBERS + [0, -1, -2, -6, 10 ** 40, [6], (6,), "6", [2, 3], {6: 6}, {"number": 6}]:
                with self.subTest(one=one, other=other, thing=thing):
                    self.assertIs(is_parting(one, other, thing), False)

    def test_not_only_the_greatest_one(self):
        for number, meant in [(1, False), (2, True), (3, True), (6, True), (4, False), (12, False), (5, False)]:
            self.assertIs(is_parting((1, 12), (6, 18), number), meant)
        for number, meant in [(1, False), (2, False), (3, True), (6, True)]:
            self.assertIs(is_parting((1, 12), (3, 18), number), meant)

    def test_of_great_ones(self):
        self.assertIs(is_parting((10 ** 40, 10 ** 9), (10 ** 40 + 5, 10 ** 9), 10 ** 9), True)
        self.assertIs(is_parting((10 ** 40, 10 ** 9), (10 ** 40 + 5, 10 ** 9), 5), False)
        self.assertIs(is_parting((10 ** 40, 10 ** 9), (10 ** 40 + 5, 10 ** 9), 2), True)


if __name__ == "__main__":
    unittest.main()
