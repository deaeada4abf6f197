"""Watchers: [80] to [82], with [3], [4] and [12] for them."""

import itertools
import unittest

from plainly import NO_NUMBERS, chance, names_of, some_hall, spoil, step, walk
from sleepmany.beats import called
from sleepmany.books import Book, plain
from sleepmany.errors import TooMany
from sleepmany.leaps import up_at
from sleepmany.watchers import are_pairs, parted_alone, told_apart

FAR = 10 ** 30


def parted_plainly(one, other, standing, beats):
    """The first beat at which not the same are up, gone through beat by beat; None where it is none of these."""
    left = walk(one, standing, beats)[1]
    right = walk(other, standing, beats)[1]
    return next((at for at in range(beats + 1) if left[at] != right[at]), None)


class AloneTest(unittest.TestCase):
    def test_small_halls_beat_by_beat(self):
        numbers = chance(80)
        told = []
        for again in range(600):
            lengths, standing = some_hall(numbers, numbers.randint(0, 4), 5, 7, spare=1)
            other = list(lengths)
            for changes in range(numbers.randint(0, 2)):
                other[numbers.randrange(len(other))] = numbers.randint(1, 5)
            meant = parted_plainly(lengths, other, standing, 300)
            with self.subTest(lengths=lengths, other=other, standing=standing):
                self.assertEqual(parted_alone(Book(lengths), Book(other), standing), meant)
                self.assertEqual(parted_alone(Book(other), Book(lengths), standing), meant)
                told.append((meant, lengths == other))
        self.assertGreater(len([1 for beat, same in told if beat is None and not same]), 50)
        self.assertGreater(len([1 for beat, same in told if beat is not None and beat > 10]), 5)

    def test_the_same_book_never(self):
        for book, standing in [(plain(3), (("a", 1), ("b", 2), ("c", 3))), (Book([7]), (("a", FAR),)), (plain(2), ())]:
            self.assertIsNone(parted_alone(book, Book(book.lengths()), standing))
        self.assertIsNone(parted_alone(Book([1]), Book([2]), ()))

    def test_the_lesser_length_counts(self):
        self.assertEqual(parted_alone(Book([3]), Book([5]), (("a", 4),)), 7)
        self.assertEqual(parted_alone(Book([5]), Book([3]), (("a", 4),)), 7)
        # b goes to sleep later, but is up sooner.
        self.assertEqual(parted_alone(Book([9, 9, 2]), Book([8, 9, 2]), (("a", 1), ("b", 2))), 9)
        self.assertEqual(parted_alone(Book([9, 2, 9]), Book([8, 1, 9]), (("a", 1), ("b", 3), ("c", 3))), 4)

    def test_books_of_unlike_many_lengths(self):
        self.assertIsNone(parted_alone(Book([2, 3]), Book([2, 3, 4]), (("a", 1), ("b", 1))))
        self.assertEqual(parted_alone(Book([2, 3, 9]), Book([2, 4]), (("a", 1), ("b", 1))), 4)

    def test_a_group_that_falls_in_ahead_of_its_first_beat(self):
        # b with c would sleep unlike long as two, but a falls in with them first: three sleep alike.
        one, other = Book([2, 5, 4]), Book([2, 7, 4])
        standing = (("a", 1), ("b", 3), ("c", 3))
        self.assertIsNone(parted_plainly([2, 5, 4], [2, 7, 4], standing, 300))
        self.assertIsNone(parted_alone(one, other, standing))

    def test_far_ones(self):
        self.assertEqual(parted_alone(Book([3]), Book([4]), (("a", 10 ** 40),)), 10 ** 40 + 3)
        # The two first meet where both 10 ** 9 - 1 and b's own beat fall together; as two they sleep unlike long.
        length = 10 ** 9 - 1
        one, other = Book([length, 5]), Book([length, 6])
        self.assertEqual(parted_alone(one, other, (("a", 1), ("b", 1 + 10 ** 20 * length))), 1 + 10 ** 20 * length + 5)
        self.assertIsNone(parted_alone(one, other, (("a", 1), ("b", 2 + 10 ** 20 * length))))

    def test_far_ones_by_up_at(self):
        numbers = chance(81)
        many_far = 0
        for again in range(60):
            lengths = [numbers.randint(1, 10 ** 9) for one in range(6)]
            # Groups of one, two and three: they meet far off, and only more than three sleep unlike long.
            rests = [numbers.randint(1, 10 ** 18) for one in range(3)]
            standing = tuple((name, rests[at]) for name, at in zip(names_of(6), [0, 1, 1, 2, 2, 2]))
            other = lengths[:3] + [numbers.randint(1, 10 ** 9) for one in lengths[3:]]
            beat = parted_alone(Book(lengths), Book(other), standing)
            if beat is not None:
                many_far += 1
                with self.subTest(lengths=lengths, other=other, standing=standing):
                    self.assertNotEqual(up_at(Book(lengths), standing, beat), up_at(Book(other), standing, beat))
                    for ahead in [1, 2, beat // 2, beat - 2, beat - 1]:
                        left, right = [up_at(Book(book), standing, ahead) for book in [lengths, other]]
                        self.assertEqual(left, right)
        self.assertGreater(many_far, 30)


def plain_told(one, other, first, second, strokes, heard):
    """[81] by going through rows, by their strokes and then by places, each pair gone on with where it is first met."""
    met = {(first, second): ()}
    rows = [((), (first, second))]
    while rows:
        longer = []
        for places, (left, right) in rows:
            for at, stroke in enumerate(strokes):
                rests, up = step(one, dict(left), stroke)
                others, up_there = step(other, dict(right), stroke)
                if (len(up) != len(up_there)) if heard else (up != up_there):
                    return ("parted", [strokes[place] for place in (*places, at)]), len(met)
                pair = (tuple(sorted(rests.items())), tuple(sorted(others.items())))
                if pair not in met:
                    met[pair] = (*places, at)
                    longer.append(((*places, at), pair))
        rows = longer
    return ("alike", list(met)), len(met)


def told_of_row(one, other, first, second, row, heard):
    """For each beat of the row whether the same is told in both."""
    same = []
    for stroke in row:
        rests, up = step(one, dict(first), stroke)
        others, up_there = step(other, dict(second), stroke)
        same.append(len(up) == len(up_there) if heard else up == up_there)
        first, second = tuple(rests.items()), tuple(others.items())
    return same


def some_strokes(numbers, names, most):
    every = [list(part) for many in range(len(names) + 1) for part in itertools.combinations(names, many)]
    numbers.shuffle(every)
    return every[:numbers.randint(1, min(most, len(every)))]


def two_halls(seed, many_times, longest=3, greatest=4):
    numbers = chance(seed)
    for again in range(many_times):
        many = numbers.choice([0, 1, 2, 2, 3])
        one, first = some_hall(numbers, many, longest, greatest)
        other, second = some_hall(numbers, many, longest, greatest)
        if numbers.random() < 0.5:
            second = first
        if numbers.random() < 0.6:
            other = list(one)
            other[-1] = numbers.randint(1, longest)
        yield one, first, other, second, some_strokes(numbers, names_of(many), 4)


class ToldApartTest(unittest.TestCase):
    def test_small_halls_seen_and_heard(self):
        words = []
        for one, first, other, second, strokes in two_halls(82, 400):
            for heard in [False, True]:
                meant, met = plain_told(one, other, first, second, strokes, heard)
                things = (Book(one), first, Book(other), second, strokes)
                with self.subTest(things=things, heard=heard):
                    told = told_apart(*things, heard=heard, most=400)
                    self.assertEqual(told, meant)
                    self.assertEqual([type(told), type(told[1])], [tuple, list])
                    self.assertEqual(told_apart(*things, most=met, heard=heard), meant)
                    if met > 1:
                        with self.assertRaises(TooMany) as caught:
                            told_apart(*things, most=met - 1, heard=heard)
                        self.assertEqual(caught.exception.most, met - 1)
                    words.append((told[0], heard, len(told[1])))
        for heard in [False, True]:
            self.assertGreater(max(many for word, how, many in words if word == "parted" and how is heard), 4)
            self.assertGreater(max(many for word, how, many in words if word == "alike" and how is heard), 10)

    def test_the_row_parts_at_its_last_beat_alone_and_is_the_first_of_the_fewest(self):
        checked = 0
        for one, first, other, second, strokes in two_halls(83, 120):
            for heard in [False, True]:
                word, row = told_apart(Book(one), first, Book(other), second, strokes, heard=heard, most=400)
                if word == "parted" and len(strokes) ** len(row) < 3000:
                    with self.subTest(one=one, first=first, other=other, second=second, strokes=strokes, heard=heard):
                        same = told_of_row(one, other, first, second, row, heard)
                        self.assertEqual(same, [True] * (len(row) - 1) + [False])
                        self.first_row(row, one, first, other, second, strokes, heard)
                        checked += 1
        self.assertGreater(checked, 50)

    def first_row(self, row, one, first, other, second, strokes, heard):
        """All rows of fewer strokes, and those of as many that go ahead of it, part nothing."""
        for many in range(1, len(row) + 1):
            for places in itertools.product(range(len(strokes)), repeat=many):
                there = [strokes[at] for at in places]
                if there == row:
                    return
                self.assertNotIn(False, told_of_row(one, other, first, second, there, heard))

    def test_the_same_hall_twice(self):
        standing = (("a", 1), ("b", 2), ("c", 3))
        strokes = [[], ["a"], ["b", "c"]]
        for heard in [False, True]:
            word, pairs = told_apart(plain(3), standing, plain(3), standing, strokes, heard=heard)
            self.assertEqual(word, "alike")
            self.assertEqual(pairs[0], (standing, standing))
            self.assertEqual([left for left, right in pairs], [right for left, right in pairs])
            self.assertEqual(len(set(pairs)), len(pairs))

    def test_heard_alone_less_is_told(self):
        # Who is up differs at once, how many does not.
        first, second = (("a", 1), ("b", 2)), (("a", 2), ("b", 1))
        self.assertEqual(told_apart(plain(2), first, plain(2), second, [[]]), ("parted", [[]]))
        self.assertEqual(told_apart(plain(2), first, plain(2), second, [[]], heard=True)[0], "alike")
        self.assertEqual(told_apart(plain(2), first, plain(2), second, [["a"]], heard=True), ("parted", [["a"]]))

    def test_hearing_is_left_out_and_handed_in_by_its_name(self):
        first, second = (("a", 1), ("b", 2)), (("a", 2), ("b", 1))
        things = (plain(2), first, plain(2), second, [[]])
        self.assertEqual(told_apart(*things), told_apart(*things, heard=False))
        self.assertEqual(told_apart(*things, most=200, heard=True), told_apart(*things, heard=True, most=200))

    def test_two_hundred_are_the_most_where_it_is_left_out(self):
        for rest in [199, 200]:
            book = Book([rest])
            word, pairs = told_apart(book, (("a", rest),), book, (("a", rest),), [[]])
            self.assertEqual([word, len(pairs)], ["alike", rest])
        book = Book([201])
        with self.assertRaises(TooMany) as caught:
            told_apart(book, (("a", 201),), book, (("a", 201),), [[]])
        self.assertEqual(caught.exception.most, 200)
        self.assertEqual(len(told_apart(book, (("a", 201),), book, (("a", 201),), [[]], most=201)[1]), 201)
        book = Book([400])
        self.assertEqual(len(told_apart(book, (("a", 400),), book, (("a", 400),), [[]], most=400)[1]), 400)

    def test_the_beat_that_parts_meets_none(self):
        # Three pairs are met, then the fourth beat parts.
        things = (Book([9]), (("a", 4),), Book([9]), (("a", 5),), [[]])
        self.assertEqual(told_apart(*things, most=4), ("parted", [[]] * 4))
        with self.assertRaises(TooMany):
            told_apart(*things, most=3)
        self.assertEqual(told_apart(Book([1]), (("a", 1),), Book([1]), (("a", 2),), [[]], most=1), ("parted", [[]]))
        # The last stroke parts, behind three that meet new pairs.
        things = (Book([9, 9]), (("a", 5), ("b", 5)), Book([8, 9]), (("a", 5), ("b", 6)), [["a"], [], ["b"], ["a", "b"]])
        meant, met = plain_told([9, 9], [8, 9], things[1], things[3], things[4], False)
        self.assertEqual(told_apart(*things), meant)
        self.assertEqual(told_apart(*things, most=met), meant)

    def test_nobody(self):
        self.assertEqual(told_apart(plain(2), (), Book([9]), (), [[]]), ("alike", [((), ())]))
        self.assertEqual(told_apart(plain(2), (), Book([9]), (), [[]], heard=True, most=1), ("alike", [((), ())]))

    def test_forty_sleepers_and_great_rests(self):
        names = names_of(40)
        first = tuple((name, 10 ** 60) for name in names)
        strokes = [[], names, names[:20], names[20:], names[:1], names[1:], names[::2], names[1::2]]
        word, row = told_apart(plain(40), first, Book([1] * 40), first, strokes, most=400)
        self.assertEqual(word, "parted")
        self.assertEqual(row, [names, []])
        with self.assertRaises(TooMany):
            told_apart(plain(40), first, plain(40), first, strokes, most=400)

    def test_told_lists_are_new(self):
        strokes = [["a"], []]
        parting = (Book([3]), (("a", 9),), Book([4]), (("a", 9),), strokes)
        word, row = told_apart(*parting)
        self.assertEqual(row, [["a"], [], [], []])
        self.assertEqual(len({id(stroke) for stroke in row + strokes}), 6)
        alike = (Book([3]), (("a", 1),), Book([3]), (("a", 1),), strokes)
        for things in [parting, alike]:
            told, again = told_apart(*things), told_apart(*things)
            spoil(told)
            self.assertEqual(told_apart(*things), again)
        self.assertEqual(strokes, [["a"], []])
        later = told_apart(*parting)
        strokes[0].append("spoilt")
        self.assertEqual(later, ("parted", [["a"], [], [], []]))


class PairsTest(unittest.TestCase):
    ONE, OTHER = Book([2, 3]), Book([2, 3, 9])
    FIRST, SECOND = (("a", 1), ("b", 2)), (("a", 1), ("b", 2))
    STROKES = [[], ["b"]]

    def things(self):
        return (self.ONE, self.FIRST, self.OTHER, self.SECOND, self.STROKES)

    def pairs(self):
        return told_apart(*self.things())[1]

    def is_closed(self, one, other, first, second, strokes, pairs, heard):
        """[82] in its words, for a list of pairs of standings."""
        if len(set(pairs)) != len(pairs) or (first, second) not in pairs:
            return False
        for left, right in pairs:
            for stroke in strokes:
                behind, up = called(one, left, stroke)
                there, others = called(other, right, stroke)
                if (behind, there) not in pairs or (len(up) != len(others) if heard else up != others):
                    return False
        return True

    def test_told_pairs_in_any_order_with_one_left_out_and_twice(self):
        numbers = chance(84)
        shown = 0
        for one, first, other, second, strokes in two_halls(85, 150):
            for heard in [False, True]:
                things = (Book(one), first, Book(other), second, strokes)
                word, pairs = told_apart(*things, heard=heard, most=400)
                if word == "alike":
                    shown += 1
                    with self.subTest(things=things, heard=heard):
                        self.assertIs(are_pairs(*things, pairs, heard=heard), True)
                        self.assertIs(are_pairs(*things, pairs[::-1], heard=heard), True)
                        numbers.shuffle(pairs)
                        self.assertIs(are_pairs(*things, pairs, heard=heard), True)
                        self.assertIs(are_pairs(*things, pairs + pairs[-1:], heard=heard), False)
                        for at in range(len(pairs)):
                            self.assertIs(are_pairs(*things, pairs[:at] + pairs[at + 1:], heard=heard), False)
        self.assertGreater(shown, 100)

    def test_what_parts_has_none(self):
        for one, first, other, second, strokes in two_halls(86, 60, longest=2, greatest=2):
            things = (Book(one), first, Book(other), second, strokes)
            names = [name for name, rest in first]
            if told_apart(*things, most=400)[0] == "parted":
                rests = list(itertools.product(range(1, 3), repeat=len(names)))
                every = [(tuple(zip(names, left)), tuple(zip(names, right))) for left in rests for right in rests]
                self.assertIs(are_pairs(*things, every), False)
                self.assertIs(are_pairs(*things, [(first, second)]), False)

    def test_some_lists_of_pairs_against_the_words(self):
        numbers = chance(87)
        told = []
        for one, first, other, second, strokes in two_halls(88, 150, longest=2, greatest=2):
            things = (Book(one), first, Book(other), second, strokes)
            pairs = told_apart(*things, heard=True, most=400)[1]
            names = [name for name, rest in first]
            for heard in [False, True]:
                if pairs and isinstance(pairs[0], tuple):
                    more = [tuple(tuple((name, numbers.randint(1, 2)) for name in names) for both in "ab")]
                    for there in [pairs, pairs + more, pairs[1:] + more]:
                        meant = self.is_closed(Book(one), Book(other), first, second, strokes, there, heard)
                        with self.subTest(things=things, there=there, heard=heard):
                            self.assertIs(are_pairs(*things, there, heard=heard), meant)
                            told.append(meant)
        self.assertGreater(told.count(True), 20)
        self.assertGreater(told.count(False), 20)

    def test_more_than_are_met(self):
        pairs = self.pairs()
        # What another pair of the same standings leads to, beside: still closed.
        beside = told_apart(self.ONE, (("a", 7), ("b", 7)), self.OTHER, (("a", 7), ("b", 7)), self.STROKES)[1]
        both = pairs + [pair for pair in beside if pair not in pairs]
        self.assertGreater(len(both), len(pairs))
        self.assertIs(are_pairs(*self.things(), both), True)
        self.assertIs(are_pairs(*self.things(), both[::-1]), True)
        self.assertIs(are_pairs(*self.things(), beside), (self.FIRST, self.SECOND) in beside)

    def test_turned_about(self):
        things = (plain(2), (("a", 1), ("b", 2)), plain(2), (("a", 2), ("b", 1)), [[]])
        pairs = told_apart(*things, heard=True)[1]
        self.assertIs(are_pairs(*things, pairs, heard=True), True)
        self.assertIs(are_pairs(*things, pairs), False)
        for at, (left, right) in enumerate(pairs):
            if left != right:
                turned = pairs[:at] + [(right, left)] + pairs[at + 1:]
                meant = self.is_closed(plain(2), plain(2), things[1], things[3], [[]], turned, True)
                self.assertIs(are_pairs(*things, turned, heard=True), meant)
                self.assertIs(meant, False)

    def spoilt(self, thing, other):
        """The thing with each of its parts, at any depth, put otherwise in turn."""
        for at, part in enumerate(thing):
            yield thing[:at] + type(thing)([other]) + thing[at + 1:]
            if isinstance(part, (tuple, list)):
                for one in self.spoilt(part, other):
                    yield thing[:at] + type(thing)([one]) + thing[at + 1:]

    def test_spoilt_in_each_part(self):
        pairs = self.pairs()
        tried = 0
        for other in NO_NUMBERS + [0, -1, 1, 2, 3, 9, 10 ** 40, "b", "A", "aaaaaaaaa", "ab"]:
            for thing in self.spoilt(pairs, other):
                # True is equal to 1, but no rest.
                if isinstance(other, bool) or thing != pairs:
                    tried += 1
                    self.assertIs(are_pairs(*self.things(), thing), False, thing)
        self.assertGreater(tried, 500)

    def test_longer_and_shorter_parts(self):
        pairs = self.pairs()
        left, right = pairs[0]
        for row in [
            (), (left,), (left, right, right), [left, right], (list(left), right), (left, list(right)), (left[:1], right),
            (left, right + (("c", 1),)), (left[::-1], right), (left, (right[0], right[0])), (left, (("a", 1), ["b", 2])),
            (left, (("a",), ("b", 2))), (left, (("a", 1, 1), ("b", 2))), (left, (("b", 1), ("c", 2))), ((), ()), left,
        ]:
            for thing in [[row] + pairs[1:], pairs + [row], [row]]:
                with self.subTest(thing=thing):
                    self.assertIs(are_pairs(*self.things(), thing), False)

    def test_what_is_no_list(self):
        pairs = self.pairs()
        for thing in NO_NUMBERS + [0, 1, tuple(pairs), dict.fromkeys(pairs), set(pairs), "pairs", str(pairs)]:
            self.assertIs(are_pairs(*self.things(), thing), False)
            self.assertIs(are_pairs(*self.things(), thing, heard=True), False)
            self.assertIs(are_pairs(*self.things(), [thing]), False)

    def test_rests_of_any_size(self):
        # Called at each beat, nobody's great rest is left; the pair handed in has one.
        great = (("a", 10 ** 60),)
        things = (Book([5]), great, Book([5]), great, [["a"]])
        self.assertEqual(told_apart(*things), ("alike", [(great, great), ((("a", 5),), (("a", 5),))]))
        self.assertIs(are_pairs(*things, told_apart(*things)[1]), True)

    def test_nobody(self):
        things = (plain(1), (), plain(2), (), [[]])
        self.assertIs(are_pairs(*things, [((), ())]), True)
        self.assertIs(are_pairs(*things, []), False)
        self.assertIs(are_pairs(*things, [((), ()), ((), ())]), False)

    def test_what_was_handed_in_is_as_it_was(self):
        pairs, strokes = self.pairs(), [[], ["b"]]
        are_pairs(self.ONE, self.FIRST, self.OTHER, self.SECOND, strokes, pairs)
        told_apart(self.ONE, self.FIRST, self.OTHER, self.SECOND, strokes)
        self.assertEqual(pairs, self.pairs())
        self.assertEqual(strokes, [[], ["b"]])


if __name__ == "__main__":
    unittest.main()
