"""Beats: [21] to [24], with [2] and [3] for them, and [13] beat by beat."""

import unittest

from plainly import chance, names_of, some_hall, spoil, step, walk
from sleepmany.beats import beat, beat_of_heap, called, counts_of, ups_of
from sleepmany.books import Book, plain, slower_book
from sleepmany.standings import heap_of, slower_standing

PAIRS = (("a", 1), ("b", 1), ("c", 2), ("d", 2))


def halls():
    """Books of 1 to 40 lengths, standings of nobody to forty, with rests alike in part."""
    numbers = chance(21)
    for many in [0, 1, 1, 2, 2, 3, 4, 5, 6, 8, 13, 21, 39, 40]:
        for longest, greatest in [(1, 1), (3, 4), (9, 5), (50, 60), (10 ** 9, 10 ** 18)]:
            yield some_hall(numbers, many, longest, greatest, spare=numbers.randint(0, 40 - max(1, many)))


class BeatTest(unittest.TestCase):
    def test_many_beats_one_behind_another(self):
        for lengths, standing in halls():
            book = Book(lengths)
            standings, ups = walk(lengths, standing, 60)
            with self.subTest(lengths=lengths, standing=standing):
                for ahead, behind, up in zip(standings, standings[1:], ups[1:]):
                    told = beat(book, ahead)
                    self.assertEqual(told, (behind, up))
                    self.assertEqual([type(told), type(told[0]), type(told[1])], [tuple, tuple, list])
                    self.assertEqual({type(pair) for pair in told[0]} - {tuple}, set())

    def test_nobody(self):
        self.assertEqual(beat(Book([5]), ()), ((), []))
        self.assertEqual(beat(plain(40), ()), ((), []))

    def test_one(self):
        self.assertEqual(beat(Book([5]), (("a", 1),)), ((("a", 5),), ["a"]))
        self.assertEqual(beat(Book([5]), (("a", 2),)), ((("a", 1),), []))
        self.assertEqual(beat(Book([1]), (("a", 1),)), ((("a", 1),), ["a"]))

    def test_who_is_up_gets_the_length_for_how_many_they_are(self):
        book = Book([7, 10 ** 9, 2])
        self.assertEqual(beat(book, (("a", 1), ("b", 2), ("c", 1))), ((("a", 10 ** 9), ("b", 1), ("c", 10 ** 9)), ["a", "c"]))
        self.assertEqual(beat(book, (("a", 1), ("b", 1), ("c", 1))), ((("a", 2), ("b", 2), ("c", 2)), ["a", "b", "c"]))
        self.assertEqual(beat(book, (("a", 3), ("b", 1), ("c", 2))), ((("a", 2), ("b", 7), ("c", 1)), ["b"]))

    def test_forty_alike(self):
        forty = names_of(40)
        book = Book([k + 100 for k in range(40)])
        told = beat(book, tuple((name, 1) for name in forty))
        self.assertEqual(told, (tuple((name, 139) for name in forty), forty))

    def test_rests_of_any_size(self):
        great = 10 ** 60
        self.assertEqual(beat(plain(3), (("a", great), ("b", 1))), ((("a", great - 1), ("b", 1)), ["b"]))

    def test_told_lists_are_new(self):
        book = plain(4)
        told = beat(book, PAIRS)
        spoil(told)
        self.assertEqual(beat(book, PAIRS), ((("a", 2), ("b", 2), ("c", 1), ("d", 1)), ["a", "b"]))


class HeapTest(unittest.TestCase):
    def test_as_the_beat(self):
        for lengths, standing in halls():
            book = Book(lengths)
            with self.subTest(lengths=lengths, standing=standing):
                for again in range(30):
                    behind, names = beat(book, standing)
                    told = beat_of_heap(book, heap_of(standing))
                    self.assertEqual(told, (heap_of(behind), len(names)))
                    self.assertEqual([type(told), type(told[0]), type(told[1])], [tuple, tuple, int])
                    standing = behind

    def test_nobody(self):
        self.assertEqual(beat_of_heap(Book([3]), ()), ((), 0))

    def test_the_heap_behind_rises(self):
        self.assertEqual(beat_of_heap(Book([9, 9, 2]), (1, 4, 20)), ((3, 9, 19), 1))
        self.assertEqual(beat_of_heap(Book([1, 2, 3]), (1, 1, 5)), ((2, 2, 4), 2))
        self.assertEqual(beat_of_heap(Book([1, 2, 3]), (2, 3, 10 ** 40)), ((1, 2, 10 ** 40 - 1), 0))


class CalledTest(unittest.TestCase):
    def test_strokes_of_none_of_all_and_of_such_as_are_due(self):
        numbers = chance(22)
        for lengths, standing in halls():
            book = Book(lengths)
            names = [name for name, rest in standing]
            due = [name for name, rest in standing if rest == 1]
            some = numbers.sample(names, numbers.randint(0, len(names)))
            for stroke in [[], names, names[::-1], due, some, some[::-1], names[:1], names[-1:]]:
                with self.subTest(lengths=lengths, standing=standing, stroke=stroke):
                    behind, up = step(lengths, dict(standing), stroke)
                    ahead = list(stroke)
                    told = called(book, standing, stroke)
                    self.assertEqual(told, (tuple(sorted(behind.items())), up))
                    self.assertEqual([type(told), type(told[0]), type(told[1])], [tuple, tuple, list])
                    self.assertEqual(stroke, ahead)

    def test_none_called_is_the_beat(self):
        for lengths, standing in halls():
            self.assertEqual(called(Book(lengths), standing, []), beat(Book(lengths), standing))

    def test_one_that_is_due_stays_so(self):
        self.assertEqual(called(plain(4), PAIRS, ["b", "a"]), beat(plain(4), PAIRS))

    def test_names_are_told_rising(self):
        self.assertEqual(called(plain(4), PAIRS, ["d", "c"])[1], ["a", "b", "c", "d"])

    def test_lists_are_nobody_elses(self):
        stroke = ["c"]
        told = called(plain(4), PAIRS, stroke)
        stroke.append("d")
        meant = ((("a", 3), ("b", 3), ("c", 3), ("d", 1)), ["a", "b", "c"])
        self.assertEqual(told, meant)
        spoil(told)
        self.assertEqual(called(plain(4), PAIRS, ["c"]), meant)


class RowTest(unittest.TestCase):
    def test_rows_of_none_to_forty_strokes(self):
        numbers = chance(23)
        for lengths, standing in halls():
            book = Book(lengths)
            names = [name for name, rest in standing]
            many = numbers.choice([0, 1, 2, 10, 40])
            row = [numbers.sample(names, numbers.randint(0, min(3, len(names)))) for again in range(many)]
            meant = []
            rests = dict(standing)
            for stroke in row:
                rests, up = step(lengths, rests, stroke)
                meant.append(up)
            with self.subTest(lengths=lengths, standing=standing, row=row):
                ahead = [list(stroke) for stroke in row]
                told = ups_of(book, standing, row)
                self.assertEqual(told, meant)
                self.assertEqual({type(told)} | {type(up) for up in told}, {list})
                self.assertEqual(row, ahead)
                self.cut_in_two(book, standing, row, meant, many // 3)

    def cut_in_two(self, book, standing, row, meant, at):
        between = standing
        for stroke in row[:at]:
            between, up = called(book, between, stroke)
        self.assertEqual(ups_of(book, standing, row[:at]) + ups_of(book, between, row[at:]), meant)

    def test_no_strokes(self):
        self.assertEqual(ups_of(plain(4), PAIRS, []), [])

    def test_lists_are_nobody_elses(self):
        row = [["c"], [], []]
        told = ups_of(plain(4), PAIRS, row)
        row[1].append("a")
        row.append(["d"])
        meant = [["a", "b", "c"], ["d"], ["d"]]
        self.assertEqual(told, meant)
        spoil(told)
        self.assertEqual(ups_of(plain(4), PAIRS, [["c"], [], []]), meant)

    def test_told_lists_are_not_one_list(self):
        told = ups_of(Book([1]), (("a", 1),), [[], [], []])
        told[0].append("b")
        self.assertEqual(told, [["a", "b"], ["a"], ["a"]])


class CountsTest(unittest.TestCase):
    def test_against_plain_going(self):
        for lengths, standing in halls():
            standings, ups = walk(lengths, standing, 70)
            for beats in [0, 1, 2, 69, 70]:
                with self.subTest(lengths=lengths, standing=standing, beats=beats):
                    told = counts_of(Book(lengths), heap_of(standing), beats)
                    self.assertIs(type(told), list)
                    self.assertEqual(told, [len(up) for up in ups[1:beats + 1]])

    def test_a_thousand_beats(self):
        numbers = chance(24)
        for many in [1, 6, 40]:
            lengths, standing = some_hall(numbers, many, 30, 50)
            standings, ups = walk(lengths, standing, 1000)
            told = counts_of(Book(lengths), heap_of(standing), 1000)
            self.assertEqual(told, [len(up) for up in ups[1:]])

    def test_nobody_is_heard(self):
        self.assertEqual(counts_of(Book([1]), (), 3), [0, 0, 0])
        self.assertEqual(counts_of(Book([1]), (10 ** 40,), 3), [0, 0, 0])

    def test_told_lists_are_new(self):
        told = counts_of(plain(4), (1, 1, 2, 2), 4)
        spoil(told)
        self.assertEqual(counts_of(plain(4), (1, 1, 2, 2), 4), [2, 2, 2, 2])


class ExampleTest(unittest.TestCase):
    """The example of [24], word for word."""

    def test_without_hands(self):
        self.assertEqual(ups_of(plain(4), PAIRS, [[]] * 6), [["a", "b"], ["c", "d"]] * 3)
        self.assertEqual(counts_of(plain(4), heap_of(PAIRS), 8), [2] * 8)
        standing = PAIRS
        for at in range(40):
            standing, names = beat(plain(4), standing)
            self.assertEqual(names, ["c", "d"] if at % 2 else ["a", "b"])

    def test_with_c_called_ahead_of_the_first_beat(self):
        meant = [["a", "b", "c"], ["d"], ["d"], ["a", "b", "c", "d"]] + [[], [], [], ["a", "b", "c", "d"]] * 9
        self.assertEqual(ups_of(plain(4), PAIRS, [["c"]] + [[]] * 39), meant)


class SlowerTest(unittest.TestCase):
    """[13]: a small hall and the same made slower."""

    def test_up_so_many_times_later_and_at_no_other_beat(self):
        numbers = chance(13)
        for many in [0, 1, 2, 3, 5, 8]:
            for by in [1, 2, 3, 7, 30]:
                lengths, standing = some_hall(numbers, many, 9, 12, spare=2)
                book = Book(lengths)
                slower, slow = slower_book(book, by), slower_standing(standing, by)
                with self.subTest(lengths=lengths, standing=standing, by=by):
                    for again in range(40):
                        standing, names = beat(book, standing)
                        for at in range(by):
                            slow, up = beat(slower, slow)
                            self.assertEqual(up, names if at == by - 1 else [])
                        self.assertEqual(slow, slower_standing(standing, by))


if __name__ == "__main__":
    unittest.main()
