"""Wishes: [83] to [85], with [3], [4] and [12] for them."""

import itertools
import unittest

from plainly import NO_NUMBERS, chance, names_of, some_hall, spoil, step
from sleepmany.beats import called
from sleepmany.books import Book, plain
from sleepmany.errors import TooMany
from sleepmany.wishes import fewest, is_fair, meets, prices

GREAT = 10 ** 60


def meets_plainly(standing, wish):
    rests = dict(standing)
    if wish[0] == "together":
        return all(rests[name] == rests[wish[1][0]] for name in wish[1])
    return len(set(rests.values())) == wish[1]


def behind_of(lengths, standing, stroke):
    return tuple(sorted(step(lengths, dict(standing), stroke)[0].items()))


def lot_plainly(lengths, standing, strokes):
    """The lot by rows, from the shortest on, by places: each standing where it is first met."""
    met = [standing]
    rows = [standing]
    while rows:
        longer = []
        for there in rows:
            for stroke in strokes:
                behind = behind_of(lengths, there, stroke)
                if behind not in met:
                    met.append(behind)
                    longer.append(behind)
        rows = longer
    return met


def prices_plainly(lengths, lot, strokes, wish):
    """For each of the lot, the calls of the cheapest row: by rows of so many calls, for each number of calls."""
    price = {there: 0 for there in lot if meets_plainly(there, wish)}
    # No row needs more calls than all of the greatest strokes on a way that meets each standing once.
    most = max(len(stroke) for stroke in strokes) * len(lot)
    for calls in range(most + 1):
        more = True
        while more:
            more = False
            for there in lot:
                for stroke in strokes:
                    left = price.get(behind_of(lengths, there, stroke))
                    if there not in price and left is not None and left + len(stroke) == calls:
                        price[there] = calls
                        more = True
    return [(there, price.get(there)) for there in lot]


def best_row_plainly(lengths, standing, strokes, wish, longest):
    """Of all rows up to so many strokes: the fewest calls, the fewest strokes, the first by places."""
    best = None
    for many in range(longest + 1):
        for places in itertools.product(range(len(strokes)), repeat=many):
            there = standing
            for at in places:
                there = behind_of(lengths, there, strokes[at])
            if meets_plainly(there, wish):
                told = (sum(len(strokes[at]) for at in places), many, places)
                best = told if best is None else min(best, told)
    return best


def some_strokes(numbers, names, most):
    every = [list(part) for many in range(len(names) + 1) for part in itertools.combinations(names, many)]
    numbers.shuffle(every)
    return every[:numbers.randint(1, min(most, len(every)))]


def some_wish(numbers, names):
    if not names or numbers.random() < 0.5:
        return ("groups", numbers.randint(0, len(names)))
    return ("together", numbers.sample(names, numbers.randint(1, len(names))))


def some_cases(seed, many_times, most=4, longest=3):
    numbers = chance(seed)
    for again in range(many_times):
        lengths, standing = some_hall(numbers, numbers.choice([0, 1, 2, 2, 3]), longest, 3)
        names = [name for name, rest in standing]
        yield lengths, standing, some_strokes(numbers, names, most), some_wish(numbers, names)


class MeetsTest(unittest.TestCase):
    def test_together(self):
        standing = (("a", 2), ("b", 2), ("c", 3))
        for names, meant in [
            (["a"], True), (["c"], True), (["a", "b"], True), (["b", "a"], True), (["a", "c"], False),
            (["c", "b", "a"], False), (["a", "b", "c"], False),
        ]:
            self.assertIs(meets(standing, ("together", names)), meant)
        self.assertIs(meets((("a", GREAT), ("b", GREAT)), ("together", ["a", "b"])), True)
        self.assertIs(meets((("a", GREAT), ("b", GREAT + 1)), ("together", ["a", "b"])), False)

    def test_groups(self):
        for standing, many in [
            ((), 0), ((("a", 5),), 1), ((("a", 5), ("b", 5)), 1), ((("a", 5), ("b", 6)), 2),
            ((("a", 1), ("b", 2), ("c", 1), ("d", GREAT)), 3),
        ]:
            for number in [0, 1, 2, 3, 4, 40, GREAT]:
                self.assertIs(meets(standing, ("groups", number)), number == many)

    def test_forty_names(self):
        names = names_of(40)
        standing = tuple((name, 7) for name in names)
        self.assertIs(meets(standing, ("together", names)), True)
        self.assertIs(meets(standing, ("together", names[::-1])), True)
        self.assertIs(meets(standing[:-1] + ((names[-1], 8),), ("together", names)), False)
        self.assertIs(meets(standing, ("groups", 1)), True)

    def test_the_wish_is_as_it_was(self):
        wish = ("together", ["b", "a"])
        meets((("a", 1), ("b", 2)), wish)
        self.assertEqual(wish, ("together", ["b", "a"]))

    def test_small_halls(self):
        for lengths, standing, strokes, wish in some_cases(83, 300):
            self.assertIs(meets(standing, wish), meets_plainly(standing, wish))


class PricesTest(unittest.TestCase):
    def test_small_halls(self):
        told_in_all = []
        for lengths, standing, strokes, wish in some_cases(84, 300):
            lot = lot_plainly(lengths, standing, strokes)
            with self.subTest(lengths=lengths, standing=standing, strokes=strokes, wish=wish):
                told = prices(Book(lengths), standing, strokes, wish, most=400)
                self.assertEqual([there for there, price in told], lot)
                self.assertEqual(told, prices_plainly(lengths, lot, strokes, wish))
                self.assertEqual({type(row) for row in told}, {tuple})
                told_in_all.extend(price for there, price in told)
        for price in [None, 0, 1, 2, 3]:
            self.assertGreater(told_in_all.count(price), 5)

    def test_most_at_just_as_many_and_one_less(self):
        for lengths, standing, strokes, wish in some_cases(85, 80):
            many = len(lot_plainly(lengths, standing, strokes))
            for ask in [prices, fewest]:
                things = (Book(lengths), standing, strokes, wish)
                with self.subTest(things=things):
                    self.assertEqual(ask(*things, most=many), ask(*things, most=400))
                    if many > 1:
                        with self.assertRaises(TooMany) as caught:
                            ask(*things, most=many - 1)
                        self.assertEqual(caught.exception.most, many - 1)

    def test_two_hundred_are_the_most_where_it_is_left_out(self):
        wish = ("groups", 1)
        self.assertEqual(len(prices(Book([200]), (("a", 200),), [[]], wish)), 200)
        self.assertEqual(fewest(Book([200]), (("a", 200),), [[]], wish), ("row", []))
        for ask in [prices, fewest]:
            with self.assertRaises(TooMany) as caught:
                ask(Book([201]), (("a", 201),), [[]], wish)
            self.assertEqual(caught.exception.most, 200)
        self.assertEqual(len(prices(Book([400]), (("a", 400),), [[]], wish, most=400)), 400)

    def test_told_ones(self):
        # Two that sleep 2 alone: called together they are one group at once, else never.
        book, standing = Book([2, 3]), (("a", 1), ("b", 2))
        wish = ("together", ["a", "b"])
        self.assertEqual(prices(book, standing, [[]], wish), [(standing, None), ((("a", 2), ("b", 1)), None)])
        told = prices(book, standing, [[], ["b"]], wish)
        self.assertEqual(told[0], (standing, 1))
        self.assertEqual(dict(told)[(("a", 3), ("b", 3))], 0)

    def test_nobody(self):
        self.assertEqual(prices(plain(1), (), [[]], ("groups", 0)), [((), 0)])
        self.assertEqual(prices(plain(1), (), [[]], ("groups", 1)), [((), None)])
        self.assertEqual(fewest(plain(1), (), [[]], ("groups", 0)), ("row", []))
        self.assertEqual(fewest(plain(1), (), [[]], ("groups", 1), most=1), ("never", [((), None)]))

    def test_told_lists_are_new(self):
        strokes, names = [[], ["a"]], ["a", "b"]
        things = (Book([2, 3]), (("a", 1), ("b", 2)), strokes, ("together", names))
        again = prices(*things)
        spoil(prices(*things))
        self.assertEqual(prices(*things), again)
        self.assertEqual([strokes, names], [[[], ["a"]], ["a", "b"]])


class FewestTest(unittest.TestCase):
    def test_small_halls_against_all_rows(self):
        words = []
        longest = {1: 10, 2: 7, 3: 5, 4: 4}
        for lengths, standing, strokes, wish in some_cases(86, 500):
            things = (Book(lengths), standing, strokes, wish)
            word, told = fewest(*things, most=400)
            with self.subTest(things=things):
                if word == "never":
                    self.assertEqual(told, prices(*things, most=400))
                    self.assertIsNone(told[0][1])
                    self.assertIsNone(best_row_plainly(lengths, standing, strokes, wish, longest[len(strokes)]))
                else:
                    self.assertEqual(word, "row")
                    self.assertEqual(sum(len(stroke) for stroke in told), prices(*things, most=400)[0][1])
                    self.check_row(told, lengths, standing, strokes, wish, longest[len(strokes)])
                words.append((word, len(told)))
        self.assertGreater(len([1 for word, many in words if word == "never"]), 20)
        self.assertGreater(len([1 for word, many in words if word == "row" and many > 1]), 20)

    def check_row(self, row, lengths, standing, strokes, wish, longest):
        there = standing
        for stroke in row:
            there = behind_of(lengths, there, stroke)
        self.assertTrue(meets_plainly(there, wish))
        best = best_row_plainly(lengths, standing, strokes, wish, longest)
        if best is not None:
            calls, many, places = best
            mine = sum(len(stroke) for stroke in row)
            # A cheaper row may be longer than those that were gone through.
            self.assertLessEqual((mine, len(row)), (calls, many))
            if len(row) <= longest:
                self.assertEqual(row, [strokes[at] for at in places])

    def test_fewest_calls_ahead_of_fewest_strokes(self):
        # Waiting two beats costs nothing, calling both at once costs two.
        book, standing = Book([2, 9]), (("a", 1), ("b", 3))
        wish = ("together", ["a", "b"])
        self.assertEqual(fewest(book, standing, [["a", "b"], []], wish), ("row", [[]]))
        book, standing = Book([3, 9]), (("a", 2), ("b", 5))
        self.assertEqual(fewest(book, standing, [["a", "b"], []], wish), ("row", [[], []]))
        # One call and no wait is as dear as two waits and one call: the fewer strokes.
        book, standing = Book([5, 9]), (("a", 1), ("b", 3))
        self.assertEqual(fewest(book, standing, [[], ["b"]], wish), ("row", [["b"]]))

    def test_the_first_by_places(self):
        book, standing = Book([2, 9, 9]), (("a", 1), ("b", 2), ("c", 2))
        wish = ("groups", 1)
        self.assertEqual(fewest(book, standing, [["b", "c"], ["a", "b", "c"]], wish), ("row", [["b", "c"]]))
        wish = ("together", ["a", "b"])
        self.assertEqual(fewest(book, standing, [["c"], ["b"]], wish)[1], [["b"]])
        one, other = ["b"], ["c"]
        for strokes in [[one, other], [other, one]]:
            self.assertEqual(fewest(Book([9, 9, 9]), (("a", 1), ("b", 5), ("c", 5)), strokes, ("groups", 2))[1], [])
        self.assertEqual(
            fewest(Book([9, 9, 9]), (("a", 1), ("b", 4), ("c", 7)), [["c"], ["b"]], ("groups", 2)), ("row", [["c"]]))
        self.assertEqual(
            fewest(Book([9, 9, 9]), (("a", 1), ("b", 4), ("c", 7)), [["b"], ["c"]], ("groups", 2)), ("row", [["b"]]))

    def test_met_at_once(self):
        self.assertEqual(fewest(plain(2), (("a", 5), ("b", 5)), [["a"]], ("groups", 1)), ("row", []))

    def test_refused_ahead_of_all(self):
        # It is met at once, but the lot is too great.
        with self.assertRaises(TooMany) as caught:
            fewest(plain(2), (("a", 5), ("b", 5)), [[]], ("groups", 1), most=3)
        self.assertEqual(caught.exception.most, 3)
        with self.assertRaises(TooMany):
            fewest(plain(1), (("a", GREAT),), [[]], ("groups", 1))

    def test_a_row_of_more_than_forty_strokes(self):
        # a is up at beats 1 and 51, and then has the rest that b has left.
        book, standing = Book([50, 50]), (("a", 1), ("b", 101))
        self.assertEqual(fewest(book, standing, [[]], ("groups", 1)), ("row", [[]] * 51))

    def test_told_lists_are_new(self):
        strokes = [[]]
        things = (Book([5, 5]), (("a", 1), ("b", 16)), strokes, ("groups", 1))
        word, row = fewest(*things)
        self.assertEqual(row, [[]] * 11)
        self.assertEqual(len({id(stroke) for stroke in row + strokes}), 12)
        never = (Book([2, 3]), (("a", 1), ("b", 2)), strokes, ("groups", 1))
        for case in [things, never]:
            told, again = fewest(*case), fewest(*case)
            spoil(told)
            self.assertEqual(fewest(*case), again)
        self.assertEqual(strokes, [[]])
        later = fewest(Book([5, 5]), (("a", 1), ("b", 16)), strokes, ("groups", 1))
        strokes[0].append("a")
        self.assertEqual(later, ("row", [[]] * 11))


class FairTest(unittest.TestCase):
    BOOK, STANDING = Book([2, 3]), (("a", 1), ("b", 2))
    STROKES, WISH = [[], ["b"]], ("together", ["a", "b"])

    def told(self):
        return prices(self.BOOK, self.STANDING, self.STROKES, self.WISH)

    def fair(self, thing):
        return is_fair(self.BOOK, self.STROKES, self.WISH, thing)

    def fair_plainly(self, lengths, strokes, wish, rows):
        """[85] in its words, for rows of standings and prices, None as more than all numbers."""
        price = dict(rows)
        if len(price) != len(rows):
            return False
        for there in price:
            if meets_plainly(there, wish) and price[there] != 0:
                return False
            for stroke in strokes:
                behind = behind_of(lengths, there, stroke)
                if behind not in price:
                    return False
                left = float("inf") if price[behind] is None else price[behind] + len(stroke)
                if (float("inf") if price[there] is None else price[there]) > left:
                    return False
        return True

    def test_told_prices_in_any_order_and_spoilt_by_one(self):
        numbers = chance(87)
        seen = {"less": [], "more": [], "none": []}
        for lengths, standing, strokes, wish in some_cases(88, 120):
            book = Book(lengths)
            rows = prices(book, standing, strokes, wish, most=400)
            with self.subTest(lengths=lengths, standing=standing, strokes=strokes, wish=wish):
                self.assertIs(is_fair(book, strokes, wish, rows), True)
                self.assertIs(is_fair(book, strokes, wish, rows[::-1]), True)
                numbers.shuffle(rows)
                self.assertIs(is_fair(book, strokes, wish, rows), True)
                self.assertIs(is_fair(book, strokes, wish, rows + rows[:1]), False)
                for at, (there, price) in enumerate(rows):
                    left_out = rows[:at] + rows[at + 1:]
                    meant = self.fair_plainly(lengths, strokes, wish, left_out)
                    self.assertIs(is_fair(book, strokes, wish, left_out), meant)
                    for word, other in self.otherwise(price):
                        spoilt = rows[:at] + [(there, other)] + rows[at + 1:]
                        meant = self.fair_plainly(lengths, strokes, wish, spoilt)
                        self.assertIs(is_fair(book, strokes, wish, spoilt), meant)
                        seen[word].append(meant)
        # No told price can be raised, and to None neither.
        self.assertEqual([set(seen["more"]), set(seen["none"])], [{False}, {False}])
        self.assertEqual(set(seen["less"]), {True, False})

    def otherwise(self, price):
        if price is not None:
            yield "more", price + 1
            yield "none", None
            if price > 0:
                yield "less", price - 1

    def test_no_price_is_more_than_the_cheapest_row(self):
        """What a fair list says: no row has fewer calls than the price."""
        for lengths, standing, strokes, wish in some_cases(89, 60, most=2):
            rows = prices(Book(lengths), standing, strokes, wish, most=400)
            for there, price in rows:
                best = best_row_plainly(lengths, there, strokes, wish, 5)
                if best is not None:
                    self.assertIsNotNone(price)
                    self.assertLessEqual(price, best[0])

    def test_lesser_prices_are_fair_too(self):
        self.assertIs(self.fair([(there, 0) for there, price in self.told()]), True)
        rows = [(there, None) for there, price in self.told()]
        self.assertIs(self.fair(rows), False)

    def test_no_rows_at_all_are_fair(self):
        self.assertIs(self.fair([]), True)

    def test_beside_one_another(self):
        """Lists of two lots, also of other sleepers, where all are there whom the strokes and the wish name."""
        book = Book([2, 3, 4])
        one = prices(book, self.STANDING, self.STROKES, self.WISH)
        other = prices(book, (("a", 1), ("b", 2), ("c", 2)), self.STROKES, self.WISH)
        self.assertIs(is_fair(book, self.STROKES, self.WISH, one + other), True)
        # Not of a book of two lengths: three sleepers are none of its standings.
        self.assertIs(is_fair(Book([2, 3]), self.STROKES, self.WISH, one + other), False)
        self.assertIs(is_fair(Book([2, 3]), self.STROKES, self.WISH, other), False)
        # In these somebody is missing whom the strokes, or the wish, name.
        for standing in [(("a", 1),), (("b", 1),), (("a", 1), ("c", 1)), ()]:
            lot = prices(book, standing, [[]], ("groups", 9))
            self.assertIs(is_fair(book, [[]], ("groups", 9), lot), True)
            self.assertIs(is_fair(book, [[]], self.WISH, lot), False)
            self.assertIs(is_fair(book, [["a", "b"]], ("groups", 9), lot), False)

    def test_rests_of_any_size(self):
        great = (("a", GREAT),)
        rows = prices(Book([5]), great, [["a"]], ("groups", 2))
        self.assertEqual(rows, [(great, None), ((("a", 5),), None)])
        self.assertIs(is_fair(Book([5]), [["a"]], ("groups", 2), rows), True)
        self.assertIs(is_fair(Book([5]), [["a"]], ("groups", 2), [(great, GREAT), ((("a", 5),), GREAT)]), True)
        self.assertIs(is_fair(Book([5]), [["a"]], ("groups", 2), [(great, GREAT + 2), ((("a", 5),), GREAT)]), False)
        self.assertIs(is_fair(Book([5]), [["a"]], ("groups", 2), [(great, GREAT + 1), ((("a", 5),), GREAT)]), True)

    def spoilt(self, thing, other):
        for at, part in enumerate(thing):
            yield thing[:at] + type(thing)([other]) + thing[at + 1:]
            if isinstance(part, (tuple, list)):
                for one in self.spoilt(part, other):
                    yield thing[:at] + type(thing)([one]) + thing[at + 1:]

    def test_spoilt_in_each_part(self):
        rows = self.told()
        tried = 0
        # A price of 0, 1 or None may be fair as well: these stand in the other test.
        for other in [one for one in NO_NUMBERS if one is not None] + [-1, GREAT, "b", "A", "aaaaaaaaa", "ab"]:
            for thing in self.spoilt(rows, other):
                if isinstance(other, bool) or thing != rows:
                    tried += 1
                    self.assertIs(self.fair(thing), False, thing)
        self.assertGreater(tried, 400)
        for other in [None, 0, 1, 2, 3, 4]:
            for at in range(len(rows)):
                for part in range(2):
                    for which in range(2):
                        pair = list(rows[at][0][part])
                        pair[which] = other
                        there = rows[at][0][:part] + (tuple(pair),) + rows[at][0][part + 1:]
                        if there != rows[at][0]:
                            self.assertIs(self.fair(rows[:at] + [(there, rows[at][1])] + rows[at + 1:]), False)

    def test_longer_and_shorter_parts(self):
        rows = self.told()
        there, price = rows[0]
        for row in [
            (), (there,), (there, price, price), [there, price], (list(there), price), (there[:1], price),
            (there[::-1], price), ((there[0], there[0]), price), ((("a", 1), ["b", 2]), price), ((("a",), ("b", 2)), price),
            ((("a", 1, 1), ("b", 2)), price), ((("A", 1), ("a", 1), ("b", 2)), price), (price, there), there,
        ]:
            for thing in [[row] + rows[1:], rows + [row], [row]]:
                with self.subTest(thing=thing):
                    self.assertIs(self.fair(thing), False)

    def test_what_is_no_list(self):
        rows = self.told()
        for thing in NO_NUMBERS + [0, 1, tuple(rows), dict(rows), set(rows), "rows", str(rows)]:
            if thing != []:
                self.assertIs(self.fair(thing), False)
            self.assertIs(self.fair([thing]), False)

    def test_what_was_handed_in_is_as_it_was(self):
        rows, strokes = self.told(), [[], ["b"]]
        is_fair(self.BOOK, strokes, self.WISH, rows)
        self.assertEqual(rows, self.told())
        self.assertEqual(strokes, [[], ["b"]])
        self.assertEqual(self.WISH, ("together", ["a", "b"]))

    def test_called_as_the_strokes_say(self):
        behind = called(self.BOOK, self.STANDING, ["b"])[0]
        self.assertIn(behind, [there for there, price in self.told()])


if __name__ == "__main__":
    unittest.main()
