"""Books: [16], with [3] and [4] for them."""

import unittest

from sleepmany.books import Book, plain, slower_book
from sleepmany.errors import TooGreat, Wrong

UNEVEN = [7, 1, 10 ** 9, 7, 2]
FORTY = [(k * k * 31) % 97 + 1 for k in range(40)]

NO_NUMBERS = [
    None, True, False, "", "1", "a", b"1", [], [1], (), (1,), {}, {1: 1}, set(), [[[[[[[[1]]]]]]]], [1] * 400, object(),
]

NO_LENGTHS = NO_NUMBERS + [0, -1, -(10 ** 9), 10 ** 9 + 1, 10 ** 18, 10 ** 40]


class BookTest(unittest.TestCase):
    def refused(self, call, *things):
        with self.assertRaises(Wrong) as caught:
            call(*things)
        self.assertIs(caught.exception.at.__class__, int)
        self.assertEqual(caught.exception.at, 0)


class MakingTest(BookTest):
    def test_lengths_are_told_in_order(self):
        for lengths in [[1], [10 ** 9], [1, 2, 3], [3, 2, 1], UNEVEN, FORTY, [5] * 40]:
            with self.subTest(lengths=lengths):
                self.assertEqual(Book(lengths).lengths(), lengths)
                self.assertIsInstance(Book(lengths).lengths(), list)

    def test_what_is_no_list_is_refused(self):
        for thing in [
            None, True, False, 0, 1, -1, 40, "", "1", "123", b"12", (), (1,), (1, 2, 3), {}, {1: 2}, {1}, set(),
            Book([1]), object(), len,
        ]:
            with self.subTest(thing=thing):
                self.refused(Book, thing)

    def test_no_lengths_and_too_many_are_refused(self):
        self.refused(Book, [])
        self.refused(Book, [1] * 41)
        self.refused(Book, list(range(1, 42)))
        self.refused(Book, [1] * 400)

    def test_a_part_that_is_no_length_is_refused(self):
        for part in NO_LENGTHS:
            for lengths in [[part], [1, part], [part, 1], [1, part, 1], [1] * 39 + [part]]:
                with self.subTest(lengths=lengths):
                    self.refused(Book, lengths)


class SleepTest(BookTest):
    def test_each_number_of_sleepers(self):
        for lengths in [[1], [9], UNEVEN, FORTY]:
            book = Book(lengths)
            for many in range(1, len(lengths) + 1):
                with self.subTest(lengths=lengths, many=many):
                    self.assertEqual(book.sleep(many), lengths[many - 1])

    def test_what_is_no_number_of_sleepers_is_refused(self):
        for book in [Book([4]), Book(UNEVEN), Book(FORTY)]:
            for many in NO_NUMBERS + [0, -1, -len(book), -40, len(book) + 1, len(book) + 2, 41, 10 ** 40]:
                with self.subTest(book=book, many=many):
                    self.refused(book.sleep, many)

    def test_what_is_refused_changes_nothing(self):
        book = Book(UNEVEN)
        self.refused(book.sleep, 6)
        self.refused(book.sleep, [1])
        self.assertEqual(book.lengths(), UNEVEN)
        self.assertEqual(book.sleep(5), 2)


class LikenessTest(BookTest):
    def test_equal_books(self):
        for lengths in [[1], [3, 1, 2], FORTY]:
            with self.subTest(lengths=lengths):
                self.assertIs(Book(lengths) == Book(list(lengths)), True)
                self.assertIs(Book(lengths) != Book(list(lengths)), False)
        book = Book([1, 2])
        self.assertIs(book == book, True)
        self.assertIs(book != book, False)

    def test_unlike_books(self):
        unlike = [[1], [2], [1, 2], [2, 1], [1, 2, 3], [1, 3, 2], [1, 1], FORTY, FORTY[:39], FORTY[:39] + [10 ** 9]]
        for k, one in enumerate(unlike):
            for other in unlike[:k] + unlike[k + 1:]:
                with self.subTest(one=one, other=other):
                    self.assertIs(Book(one) == Book(other), False)
                    self.assertIs(Book(one) != Book(other), True)

    def test_what_is_no_book(self):
        for book, thing in [(Book([1]), thing) for thing in NO_NUMBERS + [0, 1]] + [
            (Book([1, 2]), [1, 2]), (Book([1, 2]), (1, 2)), (Book([1, 2]), "Book([1, 2])"), (Book([1]), Book),
        ]:
            with self.subTest(book=book, thing=thing):
                self.assertIs(book == thing, False)
                self.assertIs(thing == book, False)
                self.assertIs(book != thing, True)
                self.assertIs(thing != book, True)

    def test_len(self):
        for lengths in [[1], [10 ** 9], UNEVEN, FORTY]:
            with self.subTest(lengths=lengths):
                self.assertEqual(len(Book(lengths)), len(lengths))

    def test_repr(self):
        self.assertEqual(repr(Book([1])), "Book([1])")
        self.assertEqual(repr(Book([3, 1, 10 ** 9])), "Book([3, 1, 1000000000])")
        self.assertEqual(repr(Book([1] * 40)), "Book([" + "1, " * 39 + "1])")


class OwnListsTest(BookTest):
    def same_as_ahead(self, book):
        self.assertEqual(book.lengths(), [5, 3, 8])
        self.assertEqual([book.sleep(many) for many in (1, 2, 3)], [5, 3, 8])
        self.refused(book.sleep, 4)
        self.assertEqual(len(book), 3)
        self.assertEqual(repr(book), "Book([5, 3, 8])")
        self.assertEqual(book, Book([5, 3, 8]))

    def change(self, lengths):
        lengths[0] = 99
        lengths.append(7)
        lengths.append("a")
        del lengths[1]

    def test_the_list_handed_in_is_changed_behind_the_call(self):
        lengths = [5, 3, 8]
        book = Book(lengths)
        self.assertEqual(lengths, [5, 3, 8])
        self.change(lengths)
        self.same_as_ahead(book)
        lengths.clear()
        self.same_as_ahead(book)

    def test_the_list_told_is_the_askers_own(self):
        book = Book([5, 3, 8])
        told = book.lengths()
        again = book.lengths()
        self.assertIsNot(told, again)
        self.change(told)
        self.assertEqual(again, [5, 3, 8])
        self.same_as_ahead(book)

    def test_a_refused_list_is_as_it_was(self):
        lengths = [5, 0, 8]
        self.refused(Book, lengths)
        self.assertEqual(lengths, [5, 0, 8])

    def test_slower_is_another_book(self):
        book = Book([5, 3, 8])
        same = slower_book(book, 1)
        self.assertIsNot(same, book)
        slower_book(book, 10)
        self.same_as_ahead(book)
        self.change(same.lengths())
        self.same_as_ahead(same)

    def test_asking_changes_nothing(self):
        book = Book([5, 3, 8])
        for again in range(3):
            self.same_as_ahead(book)


class PlainTest(BookTest):
    def test_each_number_of_sleepers(self):
        for many in range(1, 41):
            with self.subTest(many=many):
                self.assertIsInstance(plain(many), Book)
                self.assertEqual(plain(many).lengths(), [k + 1 for k in range(many)])
                self.assertEqual(len(plain(many)), many)

    def test_one_and_forty(self):
        self.assertEqual(plain(1), Book([1]))
        self.assertEqual(plain(40).sleep(40), 40)

    def test_what_is_no_number_of_sleepers_is_refused(self):
        for many in NO_NUMBERS + [0, -1, -40, 41, 42, 10 ** 9, 10 ** 40, Book([1])]:
            with self.subTest(many=many):
                self.refused(plain, many)


class SlowerTest(BookTest):
    def too_great(self, lengths, by, length):
        book = Book(lengths)
        with self.assertRaises(TooGreat) as caught:
            slower_book(book, by)
        self.assertEqual(caught.exception.length, length)
        self.assertEqual(book.lengths(), lengths)

    def test_lengths_are_so_many_times_as_great(self):
        for lengths in [[1], [3, 1, 2], FORTY, [10 ** 6] * 40]:
            for by in [1, 2, 7, 999, 1000]:
                with self.subTest(lengths=lengths, by=by):
                    slower = slower_book(Book(lengths), by)
                    self.assertIsInstance(slower, Book)
                    self.assertEqual(slower.lengths(), [by * length for length in lengths])

    def test_up_to_the_greatest_length(self):
        self.assertEqual(slower_book(Book([10 ** 9]), 1), Book([10 ** 9]))
        self.assertEqual(slower_book(Book([1, 10 ** 6]), 1000), Book([1000, 10 ** 9]))
        self.assertEqual(slower_book(Book([5 * 10 ** 8]), 2), Book([10 ** 9]))

    def test_above_the_greatest_length(self):
        self.too_great([10 ** 9], 2, 2 * 10 ** 9)
        self.too_great([10 ** 6 + 1], 1000, 10 ** 9 + 1000)
        self.too_great([333333334], 3, 10 ** 9 + 2)

    def test_the_first_one_above_is_told(self):
        self.too_great([10 ** 6, 10 ** 6 + 2, 10 ** 9, 10 ** 6 + 1], 1000, 10 ** 9 + 2000)
        self.too_great([1] * 39 + [10 ** 9], 1000, 10 ** 12)
        self.too_great([10 ** 9, 10 ** 8], 1000, 10 ** 12)


if __name__ == "__main__":
    unittest.main()
