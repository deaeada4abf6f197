"""A house: [90] to [94], with [2] to [4] for it."""

import unittest

from plainhouse import PlainHouse, Refused
from plainly import NO_NUMBERS, chance, names_of, spoil
from sleepmany import errors
from sleepmany.beats import beat
from sleepmany.books import Book, plain
from sleepmany.errors import Full, NoBeat, NoHall, NoSleeper, Nothing, Stopped, Twice, Wrong
from sleepmany.house import House
from sleepmany.leaps import far, given_over

FIELDS = {
    "NoHall": "at", "Twice": "name", "Full": "most", "NoSleeper": "name", "NoBeat": "beat", "Stopped": "at",
    "Nothing": None,
}
NO_NAMES = [thing for thing in NO_NUMBERS if thing not in ("a", "abc")] + [0, 1, -1, "A", "ab c", "abcdefghi", "a1"]
NO_HALLS = NO_NUMBERS + [-1, -10 ** 40]
NO_RESTS = NO_NUMBERS + [0, -1, 10 ** 18 + 1, 10 ** 40]
NO_BEATS = NO_NUMBERS + [-1, 10 ** 30 + 1]
NO_MOMENTS = NO_NUMBERS + [-1, -10 ** 40]


def state(house):
    """All that is told of a house."""
    halls = range(len(house.books()))
    return {
        "now": house.now(), "story": house.story(), "books": house.books(),
        "halls": [house.standing(hall) for hall in halls], "ledgers": [house.ledger(hall) for hall in halls],
    }


def closes(house):
    """Whether the ledger of each hall closes."""
    for hall in range(len(house.books())):
        given, slept, brought, taken = house.ledger(hall)
        rests = sum(rest for name, rest in house.standing(hall))
        if given + brought != slept + taken + rests:
            return False
    return True


def some_house():
    """Two halls, of three and of two; anna and bob in the first, at moment 4."""
    house = House([plain(3), Book([4, 5])])
    house.come(0, "anna", 3)
    house.come(0, "bob", 9)
    house.wait(4)
    return house


class HouseCase(unittest.TestCase):
    def refused(self, house, refusal, field, ask, *things):
        """The question or deed is refused so, and changes nothing."""
        ahead = state(house)
        with self.subTest(ask=ask, things=things), self.assertRaises(refusal) as caught:
            ask(*things)
        self.assertIs(type(caught.exception), refusal)
        self.assertEqual(vars(caught.exception), field)
        for value in field.values():
            self.assertIs(type(list(vars(caught.exception).values())[0]), type(value))
        self.assertEqual(state(house), ahead)

    def wrong(self, house, at, ask, *things):
        self.refused(house, Wrong, {"at": at}, ask, *things)


class BeginningTest(HouseCase):
    def test_nobody_is_there_at_first(self):
        for many in range(1, 5):
            books = [plain(k + 1) for k in range(many)]
            house = House(books)
            self.assertEqual(house.now(), 0)
            self.assertEqual(house.story(), [])
            self.assertEqual(house.books(), books)
            for hall in range(many):
                self.assertEqual(house.standing(hall), ())
                self.assertEqual(house.was(hall, 0), ())
                self.assertEqual(house.ledger(hall), (0, 0, 0, 0))
            self.assertEqual([type(house.books()), type(house.ledger(0)), type(house.standing(0))], [list, tuple, tuple])

    def test_what_is_no_list_of_one_to_four_books(self):
        book = plain(1)
        for thing in NO_NUMBERS + [
            0, 1, book, (book,), [book] * 5, [], [None], [book, None], [None, book], [[1]], [book, [1]], {0: book}, [True],
        ]:
            with self.subTest(thing=thing), self.assertRaises(Wrong) as caught:
                House(thing)
            self.assertEqual(caught.exception.at, 0)

    def test_the_list_is_the_callers_own(self):
        books = [plain(1), plain(2)]
        house = House(books)
        books.append(plain(3))
        books[0] = plain(40)
        self.assertEqual(house.books(), [plain(1), plain(2)])
        spoil(house.books())
        self.assertEqual(house.books(), [plain(1), plain(2)])
        house.come(0, "a", 1)
        self.refused(house, Full, {"most": 1}, house.come, 0, "b", 1)


class DeedsTest(HouseCase):
    def test_each_deed(self):
        house = House([plain(3), Book([4, 5])])
        self.assertIsNone(house.come(0, "anna", 3))
        self.assertIsNone(house.come(0, "bob", 9))
        self.assertEqual(house.standing(0), (("anna", 3), ("bob", 9)))
        self.assertIsNone(house.wait(4))
        # anna was up at beats 3 and 4.
        self.assertEqual(house.standing(0), (("anna", 1), ("bob", 5)))
        self.assertIsNone(house.lull("anna", 10))
        self.assertEqual(house.standing(0), (("anna", 11), ("bob", 5)))
        self.assertEqual(house.call("bob"), 5)
        self.assertEqual(house.standing(0), (("anna", 11), ("bob", 1)))
        self.assertIsNone(house.lead("anna", 1))
        self.assertEqual([house.standing(0), house.standing(1)], [(("bob", 1),), (("anna", 11),)])
        self.assertEqual(house.go("anna"), 11)
        self.assertEqual([house.standing(0), house.standing(1)], [(("bob", 1),), ()])
        self.assertEqual(house.now(), 4)
        self.assertEqual(house.story(), [
            (0, "came", "anna", 0, 3), (0, "came", "bob", 0, 9), (4, "lulled", "anna", 0, 10), (4, "called", "bob", 0, 5),
            (4, "led", "anna", 1, 11), (4, "went", "anna", 1, 11),
        ])
        # Up were anna at 3 and 4, one each time for one beat.
        self.assertEqual(house.ledger(0), (2, 8, 3 + 9 + 10, 4 + 11))
        self.assertEqual(house.ledger(1), (0, 0, 11, 11))
        self.assertTrue(closes(house))

    def test_wrong_in_its_place_ahead_of_all_else(self):
        house = some_house()
        for thing in NO_HALLS:
            self.wrong(house, 0, house.come, thing, "anna", 0)
            self.wrong(house, 0, house.come, thing, None, None)
            self.wrong(house, 0, house.standing, thing)
            self.wrong(house, 0, house.ledger, thing)
            self.wrong(house, 0, house.was, thing, 10 ** 40)
            self.wrong(house, 0, house.was, thing, None)
            self.wrong(house, 1, house.lead, "nobody", thing)
        for thing in NO_NAMES:
            self.wrong(house, 1, house.come, 9, thing, 1)
            self.wrong(house, 1, house.come, 9, thing, 0)
            self.wrong(house, 0, house.go, thing)
            self.wrong(house, 0, house.call, thing)
            self.wrong(house, 0, house.lull, thing, 1)
            self.wrong(house, 0, house.lull, thing, None)
            self.wrong(house, 0, house.lead, thing, 9)
            self.wrong(house, 0, house.lead, thing, None)
        for thing in NO_RESTS:
            self.wrong(house, 2, house.come, 9, "anna", thing)
            self.wrong(house, 1, house.lull, "nobody", thing)
        for thing in NO_BEATS:
            self.wrong(house, 0, house.wait, thing)
        for thing in NO_MOMENTS:
            self.wrong(house, 1, house.was, 9, thing)
            self.wrong(house, 0, house.put_in, thing, ("go", "anna"))
            self.wrong(house, 0, house.put_in, thing, None)

    def test_no_hall_then_twice_then_full(self):
        house = House([Book([5]), plain(2)])
        house.come(0, "anna", 3)
        for hall in [2, 3, 10 ** 40]:
            self.refused(house, NoHall, {"at": hall}, house.come, hall, "anna", 1)
            self.refused(house, NoHall, {"at": hall}, house.come, hall, "bob", 1)
        self.refused(house, Twice, {"name": "anna"}, house.come, 0, "anna", 1)
        self.refused(house, Twice, {"name": "anna"}, house.come, 1, "anna", 1)
        self.refused(house, Full, {"most": 1}, house.come, 0, "bob", 1)
        house.come(1, "bob", 1)
        house.come(1, "carl", 1)
        self.refused(house, Full, {"most": 2}, house.come, 1, "dora", 1)
        self.refused(house, Twice, {"name": "bob"}, house.come, 0, "bob", 1)
        self.refused(house, Twice, {"name": "bob"}, house.come, 1, "bob", 1)

    def test_no_sleeper(self):
        house = some_house()
        for name in ["nobody", "ann", "a"]:
            self.refused(house, NoSleeper, {"name": name}, house.go, name)
            self.refused(house, NoSleeper, {"name": name}, house.call, name)
            self.refused(house, NoSleeper, {"name": name}, house.lull, name, 5)
            for hall in [0, 1, 2, 10 ** 40]:
                self.refused(house, NoSleeper, {"name": name}, house.lead, name, hall)
        house.go("anna")
        self.refused(house, NoSleeper, {"name": "anna"}, house.go, "anna")
        house.come(1, "anna", 1)
        self.assertEqual(house.go("anna"), 1)

    def test_lead_no_hall_then_full(self):
        house = House([plain(2), Book([7])])
        house.come(0, "anna", 3)
        house.come(1, "bob", 4)
        for hall in [2, 10 ** 40]:
            self.refused(house, NoHall, {"at": hall}, house.lead, "anna", hall)
        self.refused(house, Full, {"most": 1}, house.lead, "anna", 1)
        house.lead("bob", 0)
        self.assertEqual(house.standing(0), (("anna", 3), ("bob", 4)))
        house.lead("anna", 1)
        self.assertEqual(house.standing(1), (("anna", 3),))

    def test_a_lead_to_its_own_hall(self):
        house = House([Book([7]), plain(2)])
        house.come(0, "anna", 3)
        ledger = house.ledger(0)
        # The hall is full, and takes it none the less: it is there.
        self.assertIsNone(house.lead("anna", 0))
        self.assertEqual(house.standing(0), (("anna", 3),))
        self.assertEqual(house.ledger(0), ledger)
        self.assertEqual(house.story(), [(0, "came", "anna", 0, 3), (0, "led", "anna", 0, 3)])
        house.wait(2)
        house.lead("anna", 0)
        self.assertEqual(house.story()[-1], (2, "led", "anna", 0, 1))
        self.assertEqual(house.ledger(0), (0, 2, 3, 0))
        house.back()
        self.assertEqual(len(house.story()), 2)

    def test_a_call_of_one_with_rest_one(self):
        house = House([plain(2)])
        house.come(0, "anna", 1)
        self.assertEqual(house.call("anna"), 1)
        self.assertEqual(house.standing(0), (("anna", 1),))
        self.assertEqual(house.ledger(0), (0, 0, 1, 0))
        self.assertEqual(house.story()[-1], (0, "called", "anna", 0, 1))

    def test_great_numbers(self):
        house = House([Book([10 ** 9])])
        house.come(0, "anna", 10 ** 18)
        house.lull("anna", 10 ** 18)
        house.lull("anna", 10 ** 18)
        self.assertEqual(house.standing(0), (("anna", 3 * 10 ** 18),))
        house.wait(10 ** 30)
        house.wait(10 ** 30)
        house.wait(0)
        self.assertEqual(house.now(), 2 * 10 ** 30)
        alone = (("anna", 3 * 10 ** 18),)
        self.assertEqual(house.standing(0), far(Book([10 ** 9]), alone, 2 * 10 ** 30))
        given = given_over(Book([10 ** 9]), alone, 2 * 10 ** 30)
        self.assertEqual(house.ledger(0), (given, 2 * 10 ** 30, 3 * 10 ** 18, 0))
        self.assertTrue(closes(house))
        self.assertEqual(house.was(0, 10 ** 30 + 7), far(Book([10 ** 9]), alone, 10 ** 30 + 7))
        self.refused(house, NoBeat, {"beat": 2 * 10 ** 30 + 1}, house.was, 0, 2 * 10 ** 30 + 1)
        self.assertEqual(house.call("anna"), far(Book([10 ** 9]), alone, 2 * 10 ** 30)[0][1])

    def test_forty_sleepers_in_each_of_four_halls(self):
        house = House([plain(40)] * 4)
        names = [letter + name for letter in "abcd" for name in names_of(40)]
        for at, name in enumerate(names):
            house.come(at // 40, name, 1 + at * 7)
        for hall in range(4):
            self.refused(house, Full, {"most": 40}, house.come, hall, "one", 1)
            self.refused(house, Full, {"most": 40}, house.lead, names[(hall + 1) * 40 - 160], hall)
        house.wait(10 ** 30)
        self.assertTrue(closes(house))
        for hall in range(4):
            start = tuple((name, 1 + at * 7) for at, name in enumerate(names) if at // 40 == hall)
            self.assertEqual(house.standing(hall), far(plain(40), start, 10 ** 30))
            self.assertEqual(house.ledger(hall)[0], given_over(plain(40), start, 10 ** 30))

    def test_waiting_is_as_beats(self):
        book = Book([2, 3, 1])
        house = House([book, plain(1)])
        for name, rest in [("a", 1), ("b", 4), ("c", 2)]:
            house.come(0, name, rest)
        standing = house.standing(0)
        for again in range(30):
            house.wait(1)
            standing = beat(book, standing)[0]
            self.assertEqual(house.standing(0), standing)
            self.assertTrue(closes(house))


class AgainstGoingPlainlyTest(HouseCase):
    """[91] to [94]: rows of all deeds, waits, late deeds, back and again by turns, done and refused."""

    def some_deed(self, numbers, halls):
        name = numbers.choice(["a", "b", "c", "d", "e", "f"])
        hall = numbers.randrange(halls + 1)
        rest = numbers.randint(1, 9)
        return numbers.choice([
            ("come", hall, name, rest), ("come", hall, name, rest), ("go", name), ("call", name), ("lull", name, rest),
            ("lead", name, hall),
        ])

    def do_one(self, numbers, house, there):
        """One deed in both; what each of the two says."""
        kind = numbers.choice(["deed"] * 6 + ["wait"] * 3 + ["late"] * 4 + ["back"] * 2 + ["again"])
        deed = self.some_deed(numbers, len(there.books))
        beats = numbers.choice([0, 1, 2, 5])
        beat = numbers.randint(0, there.now + (numbers.random() < 0.1))
        if kind == "deed":
            return self.both(lambda: getattr(house, deed[0])(*deed[1:]), lambda: there.do(deed), deed[0])
        if kind == "wait":
            return self.both(lambda: house.wait(beats), lambda: there.wait(beats), "wait")
        if kind == "late":
            return self.both(lambda: house.put_in(beat, deed), lambda: there.put_in(beat, deed), "late")
        return self.both(getattr(house, kind), getattr(there, kind), kind)

    def both(self, ask, plainly, word):
        try:
            meant = plainly()
            if word not in ("go", "call", "late"):
                meant = None
            meant = ("told", meant)
        except Refused as refused:
            meant = (refused.word, refused.field)
        try:
            told = ("told", ask())
        except errors.SleepError as refused:
            name = type(refused).__name__
            told = (name, None if FIELDS[name] is None else getattr(refused, FIELDS[name]))
        self.assertEqual(told, meant)
        return word, meant[0]

    def compare(self, house, there):
        plainly = there.gone()
        self.assertEqual(house.now(), there.now)
        self.assertEqual(house.story(), plainly["story"])
        for hall in range(len(there.books)):
            self.assertEqual(house.standing(hall), plainly["halls"][hall])
            self.assertEqual(house.ledger(hall), plainly["ledgers"][hall])
            for beat in range(there.now + 1):
                self.assertEqual(house.was(hall, beat), plainly["moments"][beat][hall])
        self.assertTrue(closes(house))

    def test_rows_of_deeds(self):
        numbers = chance(90)
        seen = {}
        for again in range(120):
            books = [[numbers.randint(1, 5) for one in range(numbers.randint(1, 4))] for k in range(numbers.randint(1, 4))]
            house, there = House([Book(lengths) for lengths in books]), PlainHouse(books)
            for deed in range(30):
                done = self.do_one(numbers, house, there)
                seen[done] = seen.get(done, 0) + 1
                if deed % 5 == 0:
                    self.compare(house, there)
            self.compare(house, there)
        for done in [
            ("come", "told"), ("come", "NoHall"), ("come", "Twice"), ("come", "Full"), ("go", "told"), ("go", "NoSleeper"),
            ("call", "told"), ("call", "NoSleeper"), ("lull", "told"), ("lull", "NoSleeper"), ("lead", "told"),
            ("lead", "NoSleeper"), ("lead", "NoHall"), ("lead", "Full"), ("wait", "told"), ("back", "told"),
            ("back", "Nothing"), ("again", "told"), ("again", "Nothing"), ("late", "told"), ("late", "NoBeat"),
            ("late", "NoHall"), ("late", "Twice"), ("late", "Full"), ("late", "NoSleeper"), ("late", "Stopped"),
        ]:
            self.assertGreater(seen.get(done, 0), 2, done)


class BackTest(HouseCase):
    def test_back_and_again_in_rows_and_by_turns(self):
        house = House([plain(3), Book([4, 5])])
        deeds = [
            ("come", 0, "anna", 3), ("wait", 2), ("come", 1, "bob", 4), ("lull", "anna", 5), ("wait", 0), ("wait", 7),
            ("call", "bob"), ("lead", "bob", 0), ("put_in", 1, ("lull", "anna", 9)), ("go", "anna"), ("wait", 10 ** 30),
        ]
        states = [state(house)]
        for word, *parts in deeds:
            getattr(house, word)(*parts)
            states.append(state(house))
        at = len(deeds)
        numbers = chance(93)
        for again in range(300):
            if numbers.random() < 0.5:
                if at == 0:
                    self.refused(house, Nothing, {}, house.back)
                else:
                    self.assertIsNone(house.back())
                    at -= 1
            elif at == len(deeds):
                self.refused(house, Nothing, {}, house.again)
            else:
                self.assertIsNone(house.again())
                at += 1
            self.assertEqual(state(house), states[at])
        while at > 0:
            house.back()
            at -= 1
            self.assertEqual(state(house), states[at])
        self.refused(house, Nothing, {}, house.back)
        for told in states[1:]:
            house.again()
            self.assertEqual(state(house), told)
        self.refused(house, Nothing, {}, house.again)

    def test_nothing_at_first(self):
        house = House([plain(1)])
        self.refused(house, Nothing, {}, house.back)
        self.refused(house, Nothing, {}, house.again)

    def test_another_deed_behind_a_back_leaves_nothing_to_do_again(self):
        for word, *parts in [
            ("come", 1, "carl", 1), ("go", "anna"), ("call", "anna"), ("lull", "anna", 1), ("lead", "anna", 1),
            ("lead", "anna", 0), ("wait", 0), ("wait", 3), ("put_in", 2, ("call", "bob")),
        ]:
            house = some_house()
            house.call("bob")
            house.back()
            getattr(house, word)(*parts)
            self.refused(house, Nothing, {}, house.again)
            house.back()
            house.again()

    def test_refused_deeds_are_none(self):
        house = some_house()
        house.call("bob")
        done = state(house)
        house.back()
        undone = state(house)
        for refusal, ask, *things in [
            (Wrong, house.come, 0, "A", 1), (NoHall, house.come, 7, "carl", 1), (Twice, house.come, 0, "anna", 1),
            (NoSleeper, house.go, "carl"), (NoHall, house.lead, "anna", 2), (Wrong, house.wait, -1),
            (NoBeat, house.put_in, 5, ("go", "anna")), (NoSleeper, house.put_in, 4, ("go", "carl")),
            (Wrong, house.put_in, 4, ()), (NoBeat, house.was, 0, 5),
        ]:
            with self.assertRaises(refusal):
                ask(*things)
        self.assertEqual(state(house), undone)
        house.again()
        self.assertEqual(state(house), done)
        house.back()
        house.back()
        # The wait was the last one that stood.
        self.assertEqual(house.now(), 0)

    def test_a_wait_of_no_beats_is_a_deed(self):
        house = House([plain(1)])
        house.wait(0)
        house.wait(0)
        house.back()
        house.back()
        self.refused(house, Nothing, {}, house.back)
        house.again()
        house.again()
        self.refused(house, Nothing, {}, house.again)

    def test_asking_is_no_deed(self):
        house = some_house()
        house.call("bob")
        house.back()
        for again in range(2):
            state(house)
            house.was(0, 1)
            house.copied()
        house.again()
        self.assertEqual(house.story()[-1][1], "called")


class WasTest(HouseCase):
    def test_moments_gone_and_now(self):
        house = some_house()
        house.call("bob")
        house.come(0, "carl", 2)
        house.wait(3)
        start = (("anna", 3), ("bob", 9))
        for beat in range(4):
            self.assertEqual(house.was(0, beat), far(plain(3), start, beat))
        # Behind all deeds done at that moment.
        there = (("anna", 1), ("bob", 1), ("carl", 2))
        for beat in range(4, 8):
            self.assertEqual(house.was(0, beat), far(plain(3), there, beat - 4))
        self.assertEqual(house.was(0, 7), house.standing(0))
        self.assertEqual(house.was(1, 5), ())

    def test_no_hall_then_no_beat(self):
        house = some_house()
        for hall in [2, 10 ** 40]:
            for beat in [0, 4, 5, 10 ** 40]:
                self.refused(house, NoHall, {"at": hall}, house.was, hall, beat)
            self.refused(house, NoHall, {"at": hall}, house.standing, hall)
            self.refused(house, NoHall, {"at": hall}, house.ledger, hall)
        for beat in [5, 6, 10 ** 30, 10 ** 40]:
            self.refused(house, NoBeat, {"beat": beat}, house.was, 0, beat)

    def test_at_the_beginning(self):
        house = House([plain(2)])
        house.wait(5)
        house.come(0, "anna", 3)
        self.assertEqual([house.was(0, beat) for beat in range(6)], [()] * 5 + [(("anna", 3),)])
        house.back()
        self.assertEqual(house.was(0, 5), ())
        house.back()
        self.refused(house, NoBeat, {"beat": 1}, house.was, 0, 1)


class CopiedTest(HouseCase):
    def test_a_copy_is_alike_and_goes_on_by_itself(self):
        house = some_house()
        house.call("bob")
        house.lead("bob", 1)
        house.back()
        other = house.copied()
        self.assertIs(type(other), House)
        self.assertEqual(state(other), state(house))
        ahead = state(house)
        other.again()
        self.assertEqual(other.story()[-1][1], "led")
        self.assertEqual(state(house), ahead)
        other.wait(9)
        other.go("anna")
        other.put_in(0, ("come", 1, "carl", 2))
        self.assertEqual(state(house), ahead)
        # What can be done once more is the house's own still.
        house.again()
        self.assertEqual(house.story()[-1][1], "led")
        self.assertEqual(len(house.story()), 4)
        for again in range(5):
            house.back()
        self.assertEqual(house.story(), [])
        self.refused(house, Nothing, {}, house.back)
        self.assertEqual(len(other.story()), 6)
        self.assertEqual(other.now(), 13)

    def test_the_house_goes_on_and_the_copy_stays(self):
        house = some_house()
        house.wait(1)
        house.back()
        other = house.copied()
        ahead = state(other)
        house.call("anna")
        house.wait(10 ** 30)
        self.assertEqual(state(other), ahead)
        other.again()
        self.assertEqual(other.now(), 5)
        for again in range(4):
            other.back()
        self.refused(other, Nothing, {}, other.back)
        third = house.copied().copied()
        self.assertEqual(state(third), state(house))

    def test_copies_by_turns(self):
        numbers = chance(94)
        house = House([plain(4)])
        houses = [house]
        plainly = [[]]
        for again in range(60):
            at = numbers.randrange(len(houses))
            name = numbers.choice("abcd")
            if any(name == row[0] for row in houses[at].standing(0)):
                houses[at].go(name)
                plainly[at] = [one for one in plainly[at] if one != name]
            else:
                houses[at].come(0, name, 5)
                plainly[at] = plainly[at] + [name]
            if len(houses) < 8:
                houses.append(houses[at].copied())
                plainly.append(plainly[at])
            for one, names in zip(houses, plainly):
                self.assertEqual([name for name, rest in one.standing(0)], sorted(names))


class LateTest(HouseCase):
    def test_as_if_it_was_told_in_time(self):
        for deed in [
            ("call", "bob"), ("lull", "anna", 5), ("go", "bob"), ("come", 1, "carl", 6), ("lead", "bob", 1), ("lead", "bob", 0),
        ]:
            late = House([plain(3), Book([4, 5])])
            late.come(0, "anna", 3)
            late.come(0, "bob", 9)
            late.wait(2)
            late.lull("anna", 1)
            late.wait(5)
            late.call("anna")
            late.wait(3)
            in_time = House([plain(3), Book([4, 5])])
            in_time.come(0, "anna", 3)
            in_time.come(0, "bob", 9)
            in_time.wait(2)
            in_time.lull("anna", 1)
            getattr(in_time, deed[0])(*deed[1:])
            in_time.wait(5)
            in_time.call("anna")
            in_time.wait(3)
            ahead = state(late)
            halls = late.put_in(2, deed)
            with self.subTest(deed=deed):
                self.assertEqual(state(late), state(in_time))
                self.assertEqual([late.was(0, beat) for beat in range(11)], [in_time.was(0, beat) for beat in range(11)])
                changed = [hall for hall in range(2) if ahead["halls"][hall] != state(late)["halls"][hall]]
                self.assertEqual(halls, changed)
                self.assertIs(type(halls), list)
                self.assertTrue(closes(late))
                late.back()
                self.assertEqual(state(late), ahead)
                late.again()
                self.assertEqual(state(late), state(in_time))

    def test_the_storys_numbers_too(self):
        house = House([plain(2)])
        house.come(0, "anna", 9)
        house.wait(3)
        self.assertEqual(house.call("anna"), 6)
        self.assertEqual(house.put_in(1, ("lull", "anna", 4)), [])
        self.assertEqual(house.story(), [
            (0, "came", "anna", 0, 9), (1, "lulled", "anna", 0, 4), (3, "called", "anna", 0, 10),
        ])
        self.assertEqual(house.standing(0), (("anna", 1),))

    def test_behind_all_others_at_that_moment(self):
        house = House([plain(2)])
        house.come(0, "anna", 9)
        house.wait(1)
        house.lull("anna", 1)
        house.wait(1)
        self.assertEqual(house.put_in(1, ("call", "anna")), [0])
        self.assertEqual([row[1] for row in house.story()], ["came", "lulled", "called"])
        self.assertEqual(house.put_in(1, ("lull", "anna", 2)), [0])
        self.assertEqual([row[1] for row in house.story()], ["came", "lulled", "called", "lulled"])
        self.assertEqual(house.put_in(0, ("lull", "anna", 2)), [])
        self.assertEqual([row[0] for row in house.story()], [0, 0, 1, 1, 1])
        self.assertEqual(house.story()[3], (1, "called", "anna", 0, 11))
        # Late at the moment that is now: as a deed done now.
        self.assertEqual(house.put_in(2, ("call", "anna")), [0])
        self.assertEqual(house.story()[-1][:2], (2, "called"))

    def test_what_a_late_deed_is(self):
        house = some_house()
        for deed in NO_NUMBERS + [
            0, 1, "go anna", ["go", "anna"], ("go",), ("go", "anna", 1), ("go", "Anna"), ("go", 1), ("go", None), ("call",),
            ("come", 0, "carl"), ("come", 0, "carl", 0), ("come", 0, "carl", 10 ** 18 + 1), ("come", -1, "carl", 1),
            ("come", True, "carl", 1), ("come", "carl", 0, 1), ("come", 0, "carl", 1, 1), ("lull", "anna"),
            ("lull", "anna", 0), ("lull", "anna", True), ("lull", 1, "anna"), ("lead", "anna"), ("lead", 0, "anna"),
            ("lead", "anna", -1), ("lead", "anna", "0"), ("wait", 1), ("back",), ("again",), ("put_in", 0, ("go", "anna")),
            ("Go", "anna"), ("", "anna"), (None, "anna"), (1, "anna"), (["go"], "anna"), (("go",), "anna"), ({}, "anna"),
            ("go", ["anna"]), ("come", [], {}, ()), ("call", b"anna"), (b"call", "anna"), ("story",),
        ]:
            self.wrong(house, 1, house.put_in, 2, deed)
            self.wrong(house, 1, house.put_in, 10 ** 40, deed)

    def test_no_beat_then_the_deeds_own_then_stopped(self):
        house = House([plain(2), Book([7])])
        house.come(0, "anna", 3)
        house.wait(2)
        house.come(1, "bob", 4)
        house.wait(2)
        house.call("anna")
        house.wait(1)
        house.go("bob")
        for beat in [6, 10 ** 40]:
            for deed in [("go", "anna"), ("go", "nobody"), ("come", 9, "anna", 1)]:
                self.refused(house, NoBeat, {"beat": beat}, house.put_in, beat, deed)
        # The deed's own, as it is there.
        self.refused(house, NoHall, {"at": 2}, house.put_in, 0, ("come", 2, "anna", 1))
        self.refused(house, Twice, {"name": "anna"}, house.put_in, 0, ("come", 1, "anna", 1))
        self.refused(house, NoSleeper, {"name": "bob"}, house.put_in, 1, ("call", "bob"))
        self.refused(house, NoSleeper, {"name": "bob"}, house.put_in, 5, ("call", "bob"))
        self.refused(house, Full, {"most": 1}, house.put_in, 2, ("come", 1, "carl", 1))
        self.refused(house, Full, {"most": 1}, house.put_in, 2, ("lead", "anna", 1))
        self.refused(house, NoSleeper, {"name": "carl"}, house.put_in, 3, ("lead", "carl", 9))
        self.refused(house, NoHall, {"at": 9}, house.put_in, 3, ("lead", "anna", 9))
        # Later ones that would be refused then: bob's coming, anna's call, bob's going.
        self.refused(house, Stopped, {"at": 1}, house.put_in, 1, ("come", 1, "carl", 1))
        self.refused(house, Stopped, {"at": 1}, house.put_in, 0, ("come", 0, "bob", 1))
        self.refused(house, Stopped, {"at": 1}, house.put_in, 1, ("lead", "anna", 1))
        self.refused(house, Stopped, {"at": 2}, house.put_in, 0, ("go", "anna"))
        self.refused(house, Stopped, {"at": 2}, house.put_in, 3, ("go", "anna"))
        self.refused(house, Stopped, {"at": 3}, house.put_in, 2, ("go", "bob"))
        self.refused(house, Stopped, {"at": 3}, house.put_in, 4, ("go", "bob"))
        # Behind the last one nothing stops.
        house.put_in(5, ("go", "anna"))
        self.assertEqual(house.standing(0), ())

    def test_which_halls_are_told(self):
        house = House([Book([5, 5, 5])] * 4)
        for hall, name in enumerate(["a", "b", "c", "d"]):
            house.come(hall, name, 3)
        house.wait(10)
        self.assertEqual(house.put_in(0, ("lead", "d", 0)), [0, 3])
        self.assertEqual(house.put_in(4, ("lead", "b", 2)), [1, 2])
        # Called at its own beat nothing changes.
        self.assertEqual(house.put_in(2, ("call", "a")), [])
        self.assertEqual(house.put_in(3, ("call", "a")), [0])

    def test_far_ones(self):
        house = House([plain(3)])
        house.come(0, "anna", 5)
        house.come(0, "bob", 5)
        house.wait(10 ** 30)
        house.call("anna")
        house.wait(10 ** 30)
        self.assertEqual(house.put_in(7, ("come", 0, "carl", 10 ** 18)), [0])
        in_time = House([plain(3)])
        in_time.come(0, "anna", 5)
        in_time.come(0, "bob", 5)
        in_time.wait(7)
        in_time.come(0, "carl", 10 ** 18)
        in_time.wait(10 ** 30 - 7)
        in_time.call("anna")
        in_time.wait(10 ** 30)
        self.assertEqual(state(house), state(in_time))

    def test_a_long_story(self):
        house = House([plain(40)])
        for at, name in enumerate(names_of(40)):
            house.come(0, name, at + 1)
            house.wait(3)
        for again in range(150):
            house.call(names_of(40)[again % 40])
            house.wait(1)
        in_time = House([plain(40)])
        in_time.come(0, "aa", 1)
        in_time.lull("aa", 7)
        in_time.wait(3)
        for at, name in enumerate(names_of(40)[1:], start=1):
            in_time.come(0, name, at + 1)
            in_time.wait(3)
        for again in range(150):
            in_time.call(names_of(40)[again % 40])
            in_time.wait(1)
        ahead = house.standing(0)
        self.assertEqual(house.put_in(0, ("lull", "aa", 7)), [] if ahead == in_time.standing(0) else [0])
        self.assertEqual(state(house), state(in_time))
        self.assertEqual(len(house.story()), 191)
        self.assertTrue(closes(house))


class NewListsTest(HouseCase):
    def test_told_lists_are_new(self):
        house = some_house()
        for ask in [house.story, house.books]:
            told, again = ask(), ask()
            self.assertEqual(told, again)
            spoil(told)
            self.assertEqual(ask(), again)
        halls = house.put_in(1, ("call", "bob"))
        spoil(halls)
        house.back()
        self.assertEqual(house.put_in(1, ("call", "bob")), [0])

    def test_what_was_handed_in_is_as_it_was(self):
        books = [plain(2)]
        deed = ("come", 0, "anna", 3)
        house = House(books)
        house.put_in(0, deed)
        self.assertEqual([books, deed], [[plain(2)], ("come", 0, "anna", 3)])

    def test_two_houses_by_turns(self):
        books = [plain(2)]
        one, other = House(books), House(books)
        one.come(0, "anna", 3)
        other.wait(5)
        other.come(0, "anna", 7)
        self.assertEqual([one.now(), other.now()], [0, 5])
        self.assertEqual([one.standing(0), other.standing(0)], [(("anna", 3),), (("anna", 7),)])
        one.back()
        self.assertEqual(other.standing(0), (("anna", 7),))


if __name__ == "__main__":
    unittest.main()
