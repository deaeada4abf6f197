"""A desk: [96], with [3] and [4] for it."""

import unittest

from plainly import NO_NUMBERS, chance, names_of
from sleepmany.beats import counts_of
from sleepmany.books import Book, plain
from sleepmany.desk import Desk
from sleepmany.errors import (
    Full, NoBeat, NoHall, NoHouse, NoLine, NoSleeper, Nothing, SleepError, Stopped, Twice,
)
from sleepmany.house import House
from sleepmany.rests import rest_from
from sleepmany.standings import heap_of
from sleepmany.texts import show_counts, show_standing, show_story

NO_ROWS = [thing for thing in NO_NUMBERS if not isinstance(thing, str)] + [0, 1, ["now"], ("now",), b"now", {"now": 1}]
GOOD = [
    "house 1", "house 1 2 3", "house 1 / 2", "house 1 2 / 3 / 4 5 / 6", "come 0 anna 3", "go anna", "call anna",
    "lull anna 5", "lead anna 1", "wait 0", "wait 7", "back", "again", "late 0 come 0 anna 3", "late 0 go anna",
    "late 3 call anna", "late 2 lull anna 4", "late 1 lead anna 0", "now", "hall 0", "was 0 0", "ledger 0", "story",
    "heard 0 1", "heard 0 60", "rest 0",
]
BAD = [
    "", " ", "-", "ok", "Now", "now ", " now", "now now", "now 0", "now\n", "\nnow", "nowt", "house", "house ", "house -", "house 0",
    "house /", "house 1 /", "house / 1", "house 1 / / 2", "house 1/2", "house 1 /2", "house 1  / 2", "house 1 /  2", "house 1 2 ",
    "house  1", "house 01", "house a", "house 1000000001", "house 1 / 2 / 3 / 4 / 5", "house 1 / 0", "house 1\n", "house -1",
    "house " + " ".join(["1"] * 41), "come", "come 0", "come 0 anna", "come anna 0 3", "come 0 anna 0", "come 0 anna 03",
    "come 00 anna 3", "come -1 anna 3", "come 0 Anna 3", "come 0 abcdefghi 3", "come 0 anna 3 4", "come 0 anna 3 ",
    "come  0 anna 3", "come 0 anna 1000000000000000001", "come 1000000000000000000000000000001 anna 3", "come 0 anna -", "go",
    "go ", "go 1", "go anna bob", "go Anna", "call", "call 1", "call anna 1", "lull", "lull anna", "lull anna 0", "lull 1 anna",
    "lull anna 1000000000000000001", "lull anna 1 1", "lead", "lead anna", "lead 1 anna", "lead anna -1", "lead anna 01",
    "lead anna 1000000000000000000000000000001", "lead anna 0 0", "wait", "wait ", "wait -1", "wait 01", "wait 1 1", "wait a",
    "wait 1000000000000000000000000000001", "back 1", "back ", "again 1", "again now", "late", "late 0", "late 0 ", "late go anna",
    "late 0 wait 1", "late 0 back", "late 0 again", "late 0 now", "late 0 late 0 go anna", "late 0 house 1", "late -1 go anna",
    "late 00 go anna", "late 0 go", "late 0 go anna 1", "late 0 come 0 anna", "late 0 come 0 anna 0", "late 0  go anna",
    "late 1000000000000000000000000000001 go anna", "late 0 hall 0", "late 0 story", "late a go anna", "hall", "hall ", "hall a",
    "hall 00", "hall -1", "hall 0 0", "hall 1000000000000000000000000000001", "was", "was 0", "was 0 a", "was 0 -1", "was 0 0 0",
    "was 0 01", "was 1000000000000000000000000000001 0", "was 0 1000000000000000000000000000001", "ledger", "ledger a",
    "ledger 0 0", "ledger 1000000000000000000000000000001", "story 0", "story ", "heard", "heard 0", "heard 0 0", "heard 0 61",
    "heard 0 01", "heard 0 60 ", "heard 60", "heard a 1", "heard 0 1 1", "heard 1000000000000000000000000000001 1", "rest",
    "rest a", "rest 0 0", "rest 1000000000000000000000000000001", "standing 0", "put_in 0 go anna", "copied", "books", "deed",
    "deed anna", "come_in 0 anna 3", "house 1 " + "9" * 5000, "wait " + "9" * 5000, "now\nnow", "hall\n0", "hall 0\n",
]


def refusal_of(desk, row):
    """The refusal's class and its fields, None where the row is answered."""
    try:
        desk.say(row)
    except SleepError as refused:
        return type(refused), vars(refused)
    return None


class DeskCase(unittest.TestCase):
    def say(self, desk, *rows):
        """The rows with what is said to each."""
        for row, meant in rows:
            with self.subTest(row=row):
                told = desk.say(row)
                self.assertEqual(told, meant)
                self.assertIs(type(told), str)

    def refused(self, desk, refusal, fields, *rows):
        for row in rows:
            with self.subTest(row=row):
                self.assertEqual(refusal_of(desk, row), (refusal, fields))

    def opened(self):
        desk = Desk()
        self.say(desk, ("house 1 2 3 / 4 5", "ok"), ("come 0 anna 3", "ok"), ("come 0 bob 9", "ok"), ("wait 4", "ok"))
        return desk


class RowsTest(DeskCase):
    def test_each_kind_of_row(self):
        desk = self.opened()
        self.say(
            desk, ("now", "4"), ("hall 0", "anna:1 bob:5"), ("hall 1", "-"), ("lull anna 10", "ok"), ("call bob", "ok 5"),
            ("lead anna 1", "ok"), ("hall 0", "bob:1"), ("hall 1", "anna:11"), ("go anna", "ok 11"), ("ledger 0", "2 8 22 15"),
            ("ledger 1", "0 0 11 11"), ("was 0 0", "anna:3 bob:9"), ("was 0 3", "anna:1 bob:6"), ("was 1 4", "-"),
            ("story", "0 came anna 0 3\n0 came bob 0 9\n4 lulled anna 0 10\n4 called bob 0 5\n4 led anna 1 11\n"
                      "4 went anna 1 11\n"),
            ("back", "ok"), ("hall 1", "anna:11"), ("again", "ok"), ("hall 1", "-"), ("heard 0 3", "1 1 1"), ("heard 1 2", "0 0"),
            ("rest 0", "0"), ("rest 1", "0"), ("late 2 lull bob 2", "-"), ("late 4 lull bob 2", "0"), ("hall 0", "bob:3"),
            ("heard 0 4", "0 0 1 1"), ("now", "4"),
        )

    def test_the_halls_of_a_late_deed(self):
        desk = Desk()
        self.say(
            desk, ("house 5 5 / 5 5 / 5 5", "ok"), ("come 0 anna 3", "ok"), ("come 2 bob 3", "ok"), ("wait 10", "ok"),
            ("late 1 lead anna 2", "0 2"), ("late 1 lead anna 2", "-"), ("late 5 come 1 carl 1", "1"),
            ("story", "0 came anna 0 3\n0 came bob 2 3\n1 led anna 2 2\n1 led anna 2 2\n5 came carl 1 1\n"), ("back", "ok"),
            ("hall 1", "-"), ("again", "ok"), ("hall 1", "carl:1"), ("late 10 go carl", "1"), ("late 10 call bob", "2"),
        )

    def test_no_story_and_great_numbers(self):
        desk = Desk()
        self.say(
            desk, ("house 1000000000", "ok"), ("story", ""), ("wait 1" + "0" * 30, "ok"), ("wait 1" + "0" * 30, "ok"),
            ("now", "2" + "0" * 30), ("story", ""), ("come 0 abcdefgh 1" + "0" * 18, "ok"),
            ("lull abcdefgh 1" + "0" * 18, "ok"), ("hall 0", "abcdefgh:2" + "0" * 18), ("was 0 1" + "0" * 30, "-"),
            ("call abcdefgh", "ok 2" + "0" * 18), ("go abcdefgh", "ok 1"),
            ("ledger 0", "0 0 2000000000000000000 2000000000000000000"),
        )

    def test_heard_and_rest(self):
        desk = Desk()
        desk.say("house 1 2 3 4 / 2 2 5")
        for name, rest in [("a", 3), ("b", 3), ("c", 3), ("d", 1)]:
            desk.say("come 0 " + name + " " + str(rest))
        self.say(desk, ("rest 0", "2"), ("rest 1", "0"), ("heard 0 1", "1"), ("heard 0 7", "1 1 4 0 0 0 4"),
                 ("heard 1 60", " ".join("0" * 60)))
        desk.say("wait 1")
        self.say(desk, ("rest 0", "1"), ("heard 0 3", "1 4 0"))
        desk.say("wait 1")
        self.say(desk, ("rest 0", "0"), ("heard 0 60", " ".join(str(k) for k in counts_of(plain(4), (1, 1, 1, 1), 60))))
        desk.say("lull a 1" + "0" * 18)
        standing = (("a", 10 ** 18 + 1), ("b", 1), ("c", 1), ("d", 1))
        self.say(desk, ("rest 0", str(rest_from(plain(4), standing))))

    def test_good_rows_are_none_that_is_refused_as_no_line(self):
        for row in GOOD:
            desk = self.opened()
            told = refusal_of(desk, row)
            self.assertFalse(told is not None and told[0] in (NoLine, NoHouse), (row, told))

    def test_bad_rows(self):
        for desk in [Desk(), self.opened()]:
            self.refused(desk, NoLine, {}, *BAD)
            for thing in NO_ROWS:
                self.refused(desk, NoLine, {}, thing)

    def test_good_rows_spoilt_at_each_place(self):
        for row in GOOD:
            words = row.split(" ")
            spoilt = [row + " ", " " + row, row + "\n", "\n" + row, row + " 0 0 0 0 0 x", row.upper(), "late " + row + " x"]
            for at in range(len(words)):
                spoilt.append(" ".join(words[:at] + [""] + words[at:]))
                spoilt.append(" ".join(words[:at] + [words[at] + "\n"] + words[at + 1:]))
                for other in ["", "A", "-1", "00", "01", "+1", "1.", "a1", "abcdefghi", "9" * 61, "1" + "0" * 31, "?"]:
                    spoilt.append(" ".join(words[:at] + [other] + words[at + 1:]))
            for desk in [Desk(), self.opened()]:
                self.refused(desk, NoLine, {}, *spoilt)

    def test_words_left_out(self):
        for row in GOOD:
            words = row.split(" ")
            if words[0] != "house":
                for at in range(len(words)):
                    left = " ".join(words[:at] + words[at + 1:])
                    # What is left of a late row may be a row of its own.
                    if left not in GOOD and not left.startswith(("go ", "call ", "lull ", "lead ", "come ")):
                        self.refused(self.opened(), NoLine, {}, left)

    def test_bounds(self):
        desk = Desk()
        desk.say("house " + " ".join(["1000000000"] * 40) + " / 1")
        self.say(desk, ("come 0 anna 1000000000000000000", "ok"), ("wait 1" + "0" * 30, "ok"), ("heard 0 60", " ".join("0" * 60)))
        self.refused(desk, NoHall, {"at": 10 ** 30}, "hall 1" + "0" * 30, "come 1" + "0" * 30 + " anna 1")
        desk.say("back")
        self.refused(desk, NoBeat, {"beat": 10 ** 30}, "was 0 1" + "0" * 30, "late 1" + "0" * 30 + " go anna")


class RefusalsTest(DeskCase):
    def test_no_house_ahead_of_one(self):
        desk = Desk()
        self.refused(desk, NoHouse, {}, *[row for row in GOOD if not row.startswith("house")])
        self.refused(desk, NoHouse, {}, "hall 9", "come 9 anna 1", "was 9 9", "late 9 go anna")
        self.refused(desk, NoLine, {}, *BAD)
        self.refused(desk, NoHouse, {}, "now")
        self.say(desk, ("house 1", "ok"), ("now", "0"))

    def test_as_the_house_refuses(self):
        desk = self.opened()
        ahead = desk.say("story"), desk.say("hall 0"), desk.say("hall 1")
        for hall in [2, 10 ** 30]:
            told = str(hall)
            self.refused(
                desk, NoHall, {"at": hall}, "come " + told + " anna 1", "lead anna " + told, "hall " + told, "was " + told + " 9",
                "ledger " + told, "heard " + told + " 5", "rest " + told, "late 0 lead anna " + told,
            )
        self.refused(desk, Twice, {"name": "anna"}, "come 1 anna 1", "late 2 come 1 anna 1")
        self.refused(desk, NoSleeper, {"name": "carl"}, "go carl", "call carl", "lull carl 1", "lead carl 9", "late 0 go carl")
        self.refused(desk, NoBeat, {"beat": 5}, "was 0 5", "late 5 go carl", "late 5 come 9 anna 1")
        self.refused(desk, Nothing, {}, "again")
        self.assertEqual((desk.say("story"), desk.say("hall 0"), desk.say("hall 1")), ahead)
        desk.say("call bob")
        self.refused(desk, Stopped, {"at": 2}, "late 1 go bob")
        desk.say("come 1 dora 1")
        desk.say("come 1 emil 1")
        self.refused(desk, Full, {"most": 2}, "come 1 carl 1", "lead anna 1", "late 4 come 1 carl 1")
        self.refused(desk, Stopped, {"at": 4}, "late 3 come 1 carl 1")
        for again in range(5):
            desk.say("back")
        self.assertEqual(desk.say("story"), "0 came anna 0 3\n")
        desk.say("back")
        self.refused(desk, Nothing, {}, "back")

    def test_a_refused_row_is_no_deed(self):
        desk = self.opened()
        desk.say("call bob")
        desk.say("back")
        for row in ["go carl", "nonsense", "come 9 carl 1", None, "house 0", "late 9 go anna"]:
            self.assertIsNotNone(refusal_of(desk, row))
        self.say(desk, ("again", "ok"), ("hall 0", "anna:1 bob:1"))


class HousesTest(DeskCase):
    def test_a_second_house(self):
        desk = self.opened()
        self.say(desk, ("house 7", "ok"), ("now", "0"), ("story", ""), ("hall 0", "-"), ("ledger 0", "0 0 0 0"))
        self.refused(desk, NoHall, {"at": 1}, "hall 1")
        # The one ahead is dropped: there is no way back to it.
        self.refused(desk, Nothing, {}, "back", "again")
        self.say(desk, ("come 0 anna 3", "ok"), ("house 1 / 1 / 1 / 1", "ok"), ("come 3 anna 1", "ok"), ("hall 3", "anna:1"))
        self.refused(desk, NoLine, {}, "house 1 / 1 / 1 / 1 / 1")
        self.say(desk, ("hall 3", "anna:1"))

    def test_two_desks_by_turns(self):
        one, other = Desk(), Desk()
        self.say(one, ("house 1 2", "ok"))
        self.refused(other, NoHouse, {}, "now")
        self.say(other, ("house 5", "ok"), ("wait 3", "ok"), ("come 0 anna 2", "ok"))
        self.say(one, ("now", "0"), ("come 0 anna 9", "ok"), ("hall 0", "anna:9"))
        self.say(other, ("hall 0", "anna:2"), ("back", "ok"), ("hall 0", "-"))
        self.say(one, ("hall 0", "anna:9"))
        self.refused(one, Nothing, {}, "again")


class AgainstHouseTest(DeskCase):
    """The same deeds told to a desk and to a house."""

    def some_row(self, numbers, now):
        name = numbers.choice("abcdef")
        hall = str(numbers.randrange(3))
        rest = str(numbers.randint(1, 9))
        deed = numbers.choice([
            ["come", hall, name, rest], ["come", hall, name, rest], ["go", name], ["call", name], ["lull", name, rest],
            ["lead", name, hall],
        ])
        return numbers.choice([
            deed, deed, deed, ["wait", rest], ["late", str(numbers.randint(0, now + 1))] + deed, ["back"], ["again"],
        ])

    def done(self, house, row):
        """What the house says to it, as a desk should write it."""
        word, *parts = [int(part) if part.isdigit() else part for part in row]
        try:
            if word == "late":
                return show_counts(house.put_in(parts[0], tuple(parts[1:])))
            told = getattr(house, word)(*parts)
            return "ok" if told is None else "ok " + str(told)
        except SleepError as refused:
            return type(refused), vars(refused)

    def test_rows_of_deeds(self):
        numbers = chance(96)
        for again in range(40):
            desk, house = Desk(), House([plain(3), Book([4, 5])])
            desk.say("house 1 2 3 / 4 5")
            for deed in range(30):
                row = self.some_row(numbers, house.now())
                meant = self.done(house, row)
                with self.subTest(row=row):
                    if isinstance(meant, str):
                        self.assertEqual(desk.say(" ".join(row)), meant)
                    else:
                        self.assertEqual(refusal_of(desk, " ".join(row)), meant)
                self.same(desk, house)

    def same(self, desk, house):
        self.assertEqual(desk.say("now"), str(house.now()))
        self.assertEqual(desk.say("story"), show_story(house.story()))
        for hall in range(2):
            told = str(hall)
            book, standing = house.books()[hall], house.standing(hall)
            self.assertEqual(desk.say("hall " + told), show_standing(standing))
            self.assertEqual(desk.say("ledger " + told), " ".join(str(part) for part in house.ledger(hall)))
            self.assertEqual(desk.say("was " + told + " " + str(house.now() // 2)),
                             show_standing(house.was(hall, house.now() // 2)))
            self.assertEqual(desk.say("rest " + told), str(rest_from(book, standing)))
            self.assertEqual(desk.say("heard " + told + " 9"), show_counts(counts_of(book, heap_of(standing), 9)))

    def test_forty_sleepers(self):
        desk = Desk()
        desk.say("house " + " ".join(str(k) for k in range(1, 41)))
        for at, name in enumerate(names_of(40)):
            self.say(desk, ("come 0 " + name + " " + str(at + 1), "ok"))
        self.refused(desk, Full, {"most": 40}, "come 0 one 1")
        self.assertEqual(len(desk.say("hall 0").split(" ")), 40)
        self.say(desk, ("wait 1" + "0" * 30, "ok"), ("rest 0", "0"))


if __name__ == "__main__":
    unittest.main()
