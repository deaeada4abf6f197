"""Kinds of things: [2] and [14]."""

import unittest

from sleepmany import kinds
from sleepmany.books import Book

ALPHABET = "abcdefghijklmnopqrstuvwxyz"

# None of these is of any of the six kinds.
OF_NO_KIND = [
    True, False, None, "", "A", "1", "-", "a b", "abcdefghi", b"", b"a", (), (1,), ("a",), ("a", "b"),
    {}, {"a": 1}, {1: "a"}, set(), {"a"}, frozenset(["a"]), [1], [0], [None], [True], [[]], [["a"]],
    -1, -2, -(10 ** 9), -(10 ** 18), -(10 ** 30), -(10 ** 40), [[[[[[[["a"]]]]]]]], ["a"] * 400,
    Book([1]), object(), len,
]


def names(many):
    return [ALPHABET[k // 26] + ALPHABET[k % 26] for k in range(many)]


class KindsCase(unittest.TestCase):
    def tells(self, ask, told, things):
        for thing in things:
            with self.subTest(ask=ask.__name__, thing=thing):
                self.assertIs(ask(thing), told)


class WholeTest(KindsCase):
    def test_whole_numbers(self):
        self.tells(kinds.is_whole, True, [0, 1, -1, 2, 40, -40, 10 ** 9, 10 ** 30 + 1, -(10 ** 30), 10 ** 5000])

    def test_truths_are_none(self):
        self.tells(kinds.is_whole, False, [True, False])

    def test_other_things_are_none(self):
        others = [thing for thing in OF_NO_KIND if isinstance(thing, bool) or not isinstance(thing, int)]
        self.tells(kinds.is_whole, False, others + ["0", "12", "a", [], ["a"]])


class BoundsTest(KindsCase):
    def bounds(self, ask, least, greatest):
        middle = (least + greatest) // 2
        self.tells(ask, True, [least, least + 1, 2, 40, middle, greatest - 1, greatest])
        self.tells(ask, False, [least - 1, least - 2, -1, greatest + 1, greatest + 2, 10 * greatest, 10 ** 5000])
        self.tells(ask, False, OF_NO_KIND + ["1", "12", "a", [], [1], ["a"]])

    def test_lengths(self):
        self.bounds(kinds.is_length, 1, 10 ** 9)

    def test_rests(self):
        self.bounds(kinds.is_rest, 1, 10 ** 18)

    def test_beats(self):
        self.bounds(kinds.are_beats, 0, 10 ** 30)


class NameTest(KindsCase):
    def test_one_to_eight_letters(self):
        self.tells(kinds.is_name, True, list(ALPHABET) + [ALPHABET[:many] for many in range(1, 9)])
        self.tells(kinds.is_name, True, ["zzzzzzzz", "aaaaaaaa", "anna"])

    def test_none_and_nine_letters(self):
        self.tells(kinds.is_name, False, ["", "abcdefghi", "a" * 9, "a" * 400])

    def test_other_signs(self):
        others = [chr(code) for code in range(0, 0x250) if chr(code) not in ALPHABET]
        self.tells(kinds.is_name, False, others)
        for sign in others:
            self.tells(kinds.is_name, False, [sign + "a", "a" + sign, "a" + sign + "a"])

    def test_other_things(self):
        self.tells(kinds.is_name, False, OF_NO_KIND + [0, 1, [], ["a"], ["a", "b"]])


class StrokeTest(KindsCase):
    def test_none_to_forty_names(self):
        self.tells(kinds.is_stroke, True, [names(many) for many in range(41)])
        self.tells(kinds.is_stroke, True, [["b", "a"], ["a", "aa"], ["abcdefgh"]])

    def test_forty_one_names(self):
        self.tells(kinds.is_stroke, False, [names(41), names(42), names(400)])

    def test_one_name_twice(self):
        self.tells(kinds.is_stroke, False, [["a", "a"], ["a", "b", "a"], names(39) + ["aa"], ["a"] * 40])

    def test_a_part_that_is_no_name(self):
        for part in OF_NO_KIND + [0, 1, [], ["a"]]:
            self.tells(kinds.is_stroke, False, [[part], ["a", part], [part, "a"], names(39) + [part]])

    def test_other_things(self):
        self.tells(kinds.is_stroke, False, OF_NO_KIND + [0, 1, "a", "ab", ("a", "b"), tuple(names(40))])

    def test_what_is_handed_in_is_as_it_was(self):
        for stroke in [[], ["b", "a"], ["a", "a"], [["a"], 1]]:
            ahead = list(stroke)
            kinds.is_stroke(stroke)
            self.assertEqual(stroke, ahead)


if __name__ == "__main__":
    unittest.main()
