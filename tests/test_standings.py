"""Standings: [20], with [2], [3] and [4] for them."""

import unittest

from plainly import NO_NUMBERS, chance, names_of, spoil
from sleepmany.books import Book, plain
from sleepmany.errors import Twice, Wrong
from sleepmany.standings import groups_of, heap_of, slower_standing, standing_of

NO_RESTS = NO_NUMBERS + [0, -1, -(10 ** 18), 10 ** 18 + 1, 10 ** 30]
NO_NAMES = [thing for thing in NO_NUMBERS if thing not in ("a", "abc")] + [
    0, 1, -1, "A", "abcdefghi", "a b", " a", "a1", "-", "a:1", "a\n",
]
NO_PAIRS = [thing for thing in NO_NUMBERS if thing != ("a", 1)] + [
    0, 1, ("a",), ("a", 1, 1), ("a", 1, "b"), (1, "a"), ["a", 1], "a1", {"a": 1}, (("a", 1),), [("a", 1)], ("a", (1,)),
]
GREAT = (("a", 10 ** 18 + 1), ("b", 1), ("c", 10 ** 40), ("d", 10 ** 40), ("e", 1))


class StandingsCase(unittest.TestCase):
    def wrong(self, thing):
        with self.subTest(thing=thing):
            ahead = list(thing) if isinstance(thing, list) else thing
            with self.assertRaises(Wrong) as caught:
                standing_of(thing)
            self.assertIs(type(caught.exception.at), int)
            self.assertEqual(caught.exception.at, 0)
            self.assertEqual(thing, ahead)

    def twice(self, pairs, name):
        with self.subTest(pairs=pairs):
            ahead = list(pairs)
            with self.assertRaises(Twice) as caught:
                standing_of(pairs)
            self.assertEqual(caught.exception.name, name)
            self.assertEqual(pairs, ahead)


class MakingTest(StandingsCase):
    def test_none_one_and_forty_in_any_order(self):
        numbers = chance(20)
        for many in [0, 1, 2, 3, 7, 39, 40]:
            pairs = [(name, numbers.randint(1, 10 ** 18)) for name in names_of(many)]
            for again in range(10):
                shuffled = list(pairs)
                numbers.shuffle(shuffled)
                ahead = list(shuffled)
                with self.subTest(shuffled=shuffled):
                    self.assertEqual(standing_of(shuffled), tuple(pairs))
                    self.assertEqual(shuffled, ahead)

    def test_it_is_tuples(self):
        told = standing_of([("b", 2), ("a", 1)])
        self.assertIs(type(told), tuple)
        self.assertEqual([type(part) for part in told], [tuple, tuple])
        self.assertEqual(standing_of([]), ())

    def test_names_go_as_texts_go(self):
        told = standing_of([("b", 1), ("ab", 2), ("a", 3), ("aa", 4), ("z", 5), ("abcdefgh", 6)])
        self.assertEqual([name for name, rest in told], ["a", "aa", "ab", "abcdefgh", "b", "z"])
        self.assertEqual(told, (("a", 3), ("aa", 4), ("ab", 2), ("abcdefgh", 6), ("b", 1), ("z", 5)))

    def test_bounds_of_rests(self):
        self.assertEqual(standing_of([("a", 1), ("b", 10 ** 18)]), (("a", 1), ("b", 10 ** 18)))

    def test_the_list_is_changed_behind_the_call(self):
        pairs = [("b", 2), ("a", 1)]
        told = standing_of(pairs)
        pairs[0] = ("c", 9)
        pairs.append(("d", 4))
        self.assertEqual(told, (("a", 1), ("b", 2)))


class RefusedTest(StandingsCase):
    def test_what_is_no_list(self):
        for thing in NO_NUMBERS + [0, 1, -1, (("a", 1),), {"a": 1}, "a", Book([1]), plain(2)]:
            if not isinstance(thing, list) or thing:
                self.wrong(thing)

    def test_forty_one(self):
        self.wrong([(name, 1) for name in names_of(41)])
        self.wrong([("a", 1)] * 41)
        self.wrong([("a", 1)] * 100)

    def test_a_thing_of_another_form_at_each_place(self):
        for many in [1, 2, 3, 40]:
            good = [(name, 5) for name in names_of(many)]
            for part in NO_PAIRS:
                for at in {0, many // 2, many - 1}:
                    self.wrong(good[:at] + [part] + good[at + 1:])

    def test_a_name_that_is_none(self):
        for name in NO_NAMES:
            self.wrong([(name, 1)])
            self.wrong([("a", 1), (name, 1), ("b", 1)])

    def test_a_rest_that_is_none(self):
        for rest in NO_RESTS:
            self.wrong([("a", rest)])
            self.wrong([("a", 1), ("b", 1), ("c", rest)])

    def test_wrong_is_ahead_of_twice(self):
        self.wrong([("a", 1), ("a", 2), ("b", 0)])
        self.wrong([("a", 1), ("a", True)])
        self.wrong([("a", 1), ("a", 1), None])
        self.wrong([("a", 1)] * 40 + [("b", 1)])

    def test_a_name_told_twice(self):
        self.twice([("a", 1), ("a", 1)], "a")
        self.twice([("a", 1), ("a", 2)], "a")
        self.twice([("b", 1), ("a", 2), ("b", 3)], "b")
        self.twice([(name, 1) for name in names_of(39)] + [("aa", 2)], "aa")
        self.twice([("a", 1)] * 40, "a")

    def test_the_first_one_that_was_told_ahead(self):
        self.twice([("a", 1), ("b", 2), ("b", 3), ("a", 4)], "b")
        self.twice([("a", 1), ("b", 2), ("a", 3), ("b", 4)], "a")
        self.twice([("c", 1), ("a", 2), ("b", 3), ("b", 4), ("a", 5), ("c", 6)], "b")

    def test_a_name_told_three_times(self):
        self.twice([("a", 1), ("b", 1), ("b", 2), ("a", 2), ("a", 3)], "b")
        self.twice([("z", 3), ("z", 2), ("z", 1)], "z")


class HeapTest(StandingsCase):
    def told(self, standing, heap):
        with self.subTest(standing=standing):
            self.assertIs(type(heap_of(standing)), tuple)
            self.assertEqual(heap_of(standing), heap)

    def test_heaps(self):
        self.told((), ())
        self.told((("a", 7),), (7,))
        self.told((("a", 3), ("b", 1), ("c", 3), ("d", 2)), (1, 2, 3, 3))
        self.told((("a", 2), ("b", 10), ("c", 9)), (2, 9, 10))
        self.told(tuple((name, 4) for name in names_of(40)), (4,) * 40)
        self.told(tuple((name, 40 - at) for at, name in enumerate(names_of(40))), tuple(range(1, 41)))
        self.told(GREAT, (1, 1, 10 ** 18 + 1, 10 ** 40, 10 ** 40))


class GroupsTest(StandingsCase):
    def told(self, standing, groups):
        with self.subTest(standing=standing):
            told = groups_of(standing)
            self.assertIs(type(told), list)
            self.assertEqual([type(group) for group in told], [tuple] * len(groups))
            self.assertEqual(told, groups)
            spoil(told)
            self.assertEqual(groups_of(standing), groups)

    def test_groups(self):
        self.told((), [])
        self.told((("a", 7),), [(7, ("a",))])
        self.told((("a", 3), ("b", 1), ("c", 3), ("d", 2)), [(1, ("b",)), (2, ("d",)), (3, ("a", "c"))])
        self.told((("a", 10), ("b", 9), ("c", 10), ("d", 9)), [(9, ("b", "d")), (10, ("a", "c"))])
        self.told(tuple((name, 4) for name in names_of(40)), [(4, tuple(names_of(40)))])
        forty = names_of(40)
        self.told(
            tuple((name, 40 - at) for at, name in enumerate(forty)),
            [(at + 1, (name,)) for at, name in enumerate(reversed(forty))],
        )
        self.told(GREAT, [(1, ("b", "e")), (10 ** 18 + 1, ("a",)), (10 ** 40, ("c", "d"))])

    def test_each_is_in_one_group_with_its_rest(self):
        numbers = chance(21)
        for many in range(41):
            standing = tuple((name, numbers.randint(1, 6)) for name in names_of(many))
            with self.subTest(standing=standing):
                groups = groups_of(standing)
                self.assertEqual(sorted({rest for name, rest in standing}), [rest for rest, names in groups])
                for rest, names in groups:
                    self.assertEqual(names, tuple(name for name, own in standing if own == rest))


class SlowerTest(StandingsCase):
    def test_rests_so_many_times_as_great(self):
        numbers = chance(22)
        for many in [0, 1, 2, 9, 40]:
            standing = tuple((name, numbers.choice([1, 2, 3, 10 ** 18])) for name in names_of(many))
            for by in [1, 2, 999, 1000]:
                with self.subTest(standing=standing, by=by):
                    told = slower_standing(standing, by)
                    self.assertIs(type(told), tuple)
                    self.assertEqual(told, tuple((name, rest * by) for name, rest in standing))

    def test_by_one_it_is_the_same(self):
        self.assertEqual(slower_standing(GREAT, 1), GREAT)

    def test_told_ones_are_handed_in_again(self):
        told = GREAT
        for again in range(20):
            told = slower_standing(told, 1000)
        self.assertEqual(told, tuple((name, rest * 10 ** 60) for name, rest in GREAT))
        self.assertEqual(heap_of(told), tuple(10 ** 60 * rest for rest in heap_of(GREAT)))


if __name__ == "__main__":
    unittest.main()
