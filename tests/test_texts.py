"""Texts: [95], with [2] to [4] for them."""

import unittest

from plainly import NO_NUMBERS, chance, names_of, spoil
from sleepmany.books import Book, plain
from sleepmany.errors import NoText
from sleepmany.house import House
from sleepmany.texts import (
    read_book, read_heap, read_row, read_standing, read_stroke, show_book, show_counts, show_heap, show_row,
    show_standing, show_story, show_stroke,
)

READERS = [read_book, read_standing, read_heap, read_stroke, read_row]
NO_TEXTS = [thing for thing in NO_NUMBERS if not isinstance(thing, str)] + [0, 1, -1, 10 ** 40]
GREATEST = 10 ** 60 - 1


class TextCase(unittest.TestCase):
    def no_text(self, read, *texts):
        for text in texts:
            with self.subTest(read=read, text=text), self.assertRaises(NoText) as caught:
                read(text)
            self.assertIs(type(caught.exception), NoText)
            self.assertEqual(vars(caught.exception), {})

    def there_and_back(self, show, read, thing, text):
        with self.subTest(thing=thing):
            self.assertEqual(show(thing), text)
            self.assertIs(type(show(thing)), str)
            self.assertEqual(read(text), thing)
            self.assertIs(type(read(text)), type(thing))

    def spoilt(self, show, read, text, signs):
        """Each sign left out, told twice, put otherwise, and each sign put in: what is read at all is written so."""
        read_so = 0
        for at in range(len(text) + 1):
            others = [text[:at] + text[at + 1:], text[:at] + text[at:at + 1] + text[at:]]
            others += [text[:at] + sign + text[at + 1:] for sign in signs]
            others += [text[:at] + sign + text[at:] for sign in signs]
            for other in others:
                try:
                    thing = read(other)
                except NoText:
                    continue
                read_so += 1
                with self.subTest(text=text, other=other):
                    self.assertEqual(show(thing), other)
        return read_so

    def test_what_is_no_text(self):
        for read in READERS:
            self.no_text(read, *NO_TEXTS)


class BooksTest(TextCase):
    def test_there_and_back(self):
        for lengths, text in [
            ([1], "1"), ([10 ** 9], "1000000000"), ([1, 2, 3], "1 2 3"), ([10, 7, 7, 100], "10 7 7 100"),
            (list(range(1, 41)), " ".join(str(k) for k in range(1, 41))), ([10 ** 9] * 40, " ".join(["1000000000"] * 40)),
        ]:
            self.there_and_back(show_book, read_book, Book(lengths), text)

    def test_what_writes_no_book(self):
        self.no_text(
            read_book, "", "-", " ", "0", "1 0", "0 1", "1000000001", "10000000000", "9" * 60, "9" * 5000, "01", "1 02", "00",
            "+1", "-1", "1.", "1,2", "1  2", " 1", "1 ", "1\n", "\n1", "1\n2", "a", "a:1", "1 -", "- 1", "--", "1_0", "0x1",
            "1 2 / 3", " ".join(["1"] * 41), "one", "Book([1])", "1e3",
        )

    def test_spoilt_at_each_place(self):
        self.assertGreater(self.spoilt(show_book, read_book, "10 7 1000000000", " \n-:0129a"), 20)
        self.spoilt(show_book, read_book, show_book(plain(40)), " 0")


class StandingsTest(TextCase):
    def test_there_and_back(self):
        forty = tuple((name, 10 ** 18) for name in names_of(40))
        for standing, text in [
            ((), "-"), ((("anna", 3),), "anna:3"), ((("a", 1), ("b", 20)), "a:1 b:20"),
            ((("a", GREATEST), ("aa", 1), ("abcdefgh", 7)), "a:" + "9" * 60 + " aa:1 abcdefgh:7"),
            (forty, " ".join(name + ":" + "1" + "0" * 18 for name in names_of(40))),
        ]:
            self.there_and_back(show_standing, read_standing, standing, text)

    def test_what_writes_no_standing(self):
        self.no_text(
            read_standing, "", " ", "--", "- a:1", "a:1 -", "a", "a:", ":1", ":", "a:0", "a:01", "a:00", "a:-1", "a:+1", "a:1 ",
            " a:1", "a:1  b:1", "a :1", "a: 1", "A:1", "a1:1", "abcdefghi:1", "a:1:1", "a::1", "a:1 a:1", "a:1 a:2", "b:1 a:1",
            "aa:1 a:1", "a:1 b:1 b:1", "a:1\n", "a:1\nb:1", "1:a", "a:1,b:1", "a:1" + "0" * 60, "a:" + "9" * 61,
            "a:" + "9" * 5000, "a:b", "a:1_0", " ".join(name + ":1" for name in names_of(41)), "-:1", "a:-",
        )

    def test_greater_rests_are_written_too(self):
        for figures in [61, 120, 121, 4299, 4300, 4301, 6000]:
            for first in ["1", "7"]:
                number = int(first) * 10 ** (figures - 1)
                text = "a:" + first + "0" * (figures - 1)
                self.assertEqual(show_standing((("a", number),)), text)
                self.assertEqual(show_heap((number,)), text[2:])
                self.no_text(read_standing, text)
                self.no_text(read_heap, text[2:])
        number = 12345 * 10 ** 300 + 678 * 10 ** 61 + 9
        self.assertEqual(show_counts([number, 0]), str(number) + " 0")

    def test_spoilt_at_each_place(self):
        self.assertGreater(self.spoilt(show_standing, read_standing, "a:1 anna:20 b:300", " \n-:0129abzA"), 50)


class HeapsTest(TextCase):
    def test_there_and_back(self):
        for heap, text in [
            ((), "-"), ((1,), "1"), ((1, 1, 2), "1 1 2"), ((GREATEST,) * 40, " ".join(["9" * 60] * 40)),
            ((9, 10), "9 10"), (tuple(range(1, 41)), " ".join(str(k) for k in range(1, 41))),
        ]:
            self.there_and_back(show_heap, read_heap, heap, text)

    def test_what_writes_no_heap(self):
        self.no_text(
            read_heap, "", " ", "0", "0 1", "2 1", "10 9", "1 3 2", "01", "1 ", " 1", "1  2", "1\n", "- 1", "1 -", "--", "a", "-1",
            "+1", "1" + "0" * 60, "9" * 5000, " ".join(["1"] * 41), "1:2",
        )

    def test_spoilt_at_each_place(self):
        self.assertGreater(self.spoilt(show_heap, read_heap, "1 1 20 300", " \n-:01239a"), 50)


class StrokesTest(TextCase):
    def test_there_and_back(self):
        for stroke, text in [
            ([], "-"), (["a"], "a"), (["b", "a"], "b a"), (["zoe", "anna", "abcdefgh"], "zoe anna abcdefgh"),
            (names_of(40)[::-1], " ".join(names_of(40)[::-1])),
        ]:
            self.there_and_back(show_stroke, read_stroke, stroke, text)

    def test_what_writes_no_stroke(self):
        self.no_text(
            read_stroke, "", " ", "--", "- a", "a -", "A", "a1", "1", "abcdefghi", "a a", "a b a", "a  b", " a", "a ", "a\n", "a\nb",
            "a,b", "a:1", "\n", " ".join(names_of(41)),
        )

    def test_spoilt_at_each_place(self):
        self.assertGreater(self.spoilt(show_stroke, read_stroke, "zoe anna b", " \n-:0abzA"), 50)


class RowsTest(TextCase):
    def test_there_and_back(self):
        for row, text in [
            ([], ""), ([[]], "-\n"), ([["a"]], "a\n"), ([["b", "a"], [], ["a"]], "b a\n-\na\n"), ([[]] * 40, "-\n" * 40),
            ([names_of(40)] * 40, (" ".join(names_of(40)) + "\n") * 40),
        ]:
            self.there_and_back(show_row, read_row, row, text)

    def test_what_writes_no_row(self):
        self.no_text(
            read_row, " ", "-", "a", "a\nb", "\n", "a\n\n", "\na\n", "a\n\nb\n", "-\n-", "a\n ", " a\n", "a \n", "A\n", "a a\n",
            "a\n- b\n", "-\n" * 41, "a:1\n", "1\n", "a\nb c b\n", "--\n", " ".join(names_of(41)) + "\n",
        )

    def test_more_than_forty_strokes_are_written_too(self):
        self.assertEqual(show_row([["a"]] * 41), "a\n" * 41)

    def test_spoilt_at_each_place(self):
        self.assertGreater(self.spoilt(show_row, read_row, "zoe b\n-\na\n", " \n-:0abzA"), 30)

    def test_strokes_read_are_lists_of_their_own(self):
        row = read_row("a\na\n-\n-\n")
        self.assertEqual(len({id(stroke) for stroke in row}), 4)
        spoil(row)
        self.assertEqual(read_row("a\na\n-\n-\n"), [["a"], ["a"], [], []])


class CountsAndStoriesTest(TextCase):
    def test_counts(self):
        for counts, text in [([], "-"), ([0], "0"), ([0, 10, 2], "0 10 2"), ([0] * 60, " ".join("0" * 60))]:
            self.assertEqual(show_counts(counts), text)
        self.assertEqual(show_counts([10 ** 5000]), "1" + "0" * 5000)

    def test_stories(self):
        self.assertEqual(show_story([]), "")
        self.assertEqual(show_story([(0, "came", "anna", 0, 3)]), "0 came anna 0 3\n")
        self.assertEqual(show_story([(0, "came", "anna", 0, 3), (10 ** 30, "went", "bob", 12, 10 ** 61)]),
                         "0 came anna 0 3\n1" + "0" * 30 + " went bob 12 1" + "0" * 61 + "\n")
        house = House([plain(2)])
        house.come(0, "anna", 3)
        house.wait(10 ** 30)
        house.call("anna")
        self.assertEqual(show_story(house.story()), "0 came anna 0 3\n1" + "0" * 30 + " called anna 0 1\n")

    def test_what_was_handed_in_is_as_it_was(self):
        row, counts, story = [["b", "a"], []], [1, 2], [(0, "came", "anna", 0, 3)]
        show_row(row), show_counts(counts), show_story(story), show_stroke(row[0])
        self.assertEqual([row, counts, story], [[["b", "a"], []], [1, 2], [(0, "came", "anna", 0, 3)]])


class SomeTest(TextCase):
    def test_some_of_each_kind(self):
        numbers = chance(95)
        for again in range(200):
            names = numbers.sample(names_of(60), numbers.randint(0, 40))
            rests = [numbers.randint(1, 10 ** numbers.randint(1, 60) - 1) for name in names]
            standing = tuple(zip(sorted(names), rests))
            heap = tuple(sorted(rests))
            row = [numbers.sample(names, numbers.randint(0, len(names))) for one in range(numbers.randint(0, 40))]
            book = Book([numbers.randint(1, 10 ** numbers.randint(1, 9)) for one in range(numbers.randint(1, 40))])
            self.assertEqual(read_standing(show_standing(standing)), standing)
            self.assertEqual(read_heap(show_heap(heap)), heap)
            self.assertEqual(read_row(show_row(row)), row)
            self.assertEqual(read_stroke(show_stroke(names)), names)
            self.assertEqual(read_book(show_book(book)), book)


if __name__ == "__main__":
    unittest.main()
