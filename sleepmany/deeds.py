"""Deeds done by hand in the halls of a house, each a tuple of a word and what it is done with."""

from sleepmany.errors import Full, NoHall, NoSleeper, Twice
from sleepmany.kinds import is_name, is_number, is_rest
from sleepmany.leaps import far

PARTS = {
    "come": ("hall", "name", "rest"),
    "go": ("name",),
    "call": ("name",),
    "lull": ("name", "rest"),
    "lead": ("name", "hall"),
}


def is_part(kind, thing):
    if kind == "hall":
        return is_number(thing)
    if kind == "name":
        return is_name(thing)
    return is_rest(thing)


def wrong_part(deed):
    """The place, the word not counted, of the first part of a deed that is not as told; None where all are."""
    for at, kind in enumerate(PARTS[deed[0]]):
        if not is_part(kind, deed[at + 1]):
            return at
    return None


def is_deed(thing):
    if not isinstance(thing, tuple) or len(thing) == 0 or not isinstance(thing[0], str):
        return False
    if thing[0] not in PARTS or len(thing) != len(PARTS[thing[0]]) + 1:
        return False
    return wrong_part(thing) is None


class Hall:
    """A hall as it was left at a moment. It is never changed: what is done in it makes another one."""

    def __init__(self, left_at, sleepers, sums):
        self.left_at = left_at
        self.sleepers = sleepers
        # Its ledger then: given, slept, brought, taken.
        self.sums = sums


def empty_hall():
    return Hall(0, (), (0, 0, 0, 0))


def rests_in(sleepers):
    return sum([rest for name, rest in sleepers])


def hall_at(book, hall, moment):
    """The hall at a later moment, if no hand did anything in it."""
    beats = moment - hall.left_at
    if beats == 0:
        return hall
    sleepers = far(book, hall.sleepers, beats)
    given, slept, brought, taken = hall.sums
    more = len(sleepers) * beats
    # What was given is as much as closes the ledger: it need not be gone through.
    given += more + rests_in(sleepers) - rests_in(hall.sleepers)
    return Hall(moment, sleepers, (given, slept + more, brought, taken))


def changed(hall, name, rest, brought, taken):
    """The hall where this sleeper has this rest, or is not there where that is None, and so much came and went."""
    sleepers = [pair for pair in hall.sleepers if pair[0] != name]
    if rest is not None:
        sleepers = sorted([*sleepers, (name, rest)])
    sums = hall.sums
    return Hall(hall.left_at, tuple(sleepers), (sums[0], sums[1], sums[2] + brought, sums[3] + taken))


def replaced(halls, at, hall):
    return halls[:at] + (hall,) + halls[at + 1:]


def rest_of(hall, name):
    return dict(hall.sleepers)[name]


def check_hall(books, hall):
    if hall >= len(books):
        raise NoHall(hall)


def check_room(books, halls, hall):
    if len(halls[hall].sleepers) >= len(books[hall]):
        raise Full(len(books[hall]))


def place_of(halls, name):
    """The number of the hall in which this sleeper is, None where it is in none."""
    for at, hall in enumerate(halls):
        if name in dict(hall.sleepers):
            return at
    return None


def place_found(halls, name):
    at = place_of(halls, name)
    if at is None:
        raise NoSleeper(name)
    return at


def come_in(books, halls, moment, hall, name, rest):
    check_hall(books, hall)
    if place_of(halls, name) is not None:
        raise Twice(name)
    check_room(books, halls, hall)
    there = hall_at(books[hall], halls[hall], moment)
    return ((moment, "came", name, hall, rest), replaced(halls, hall, changed(there, name, rest, rest, 0)))


def go_out(books, halls, moment, name):
    at = place_found(halls, name)
    there = hall_at(books[at], halls[at], moment)
    rest = rest_of(there, name)
    return ((moment, "went", name, at, rest), replaced(halls, at, changed(there, name, None, 0, rest)))


def call_up(books, halls, moment, name):
    at = place_found(halls, name)
    there = hall_at(books[at], halls[at], moment)
    rest = rest_of(there, name)
    return ((moment, "called", name, at, rest), replaced(halls, at, changed(there, name, 1, 0, rest - 1)))


def lull_on(books, halls, moment, name, more):
    at = place_found(halls, name)
    there = hall_at(books[at], halls[at], moment)
    rest = rest_of(there, name) + more
    return ((moment, "lulled", name, at, more), replaced(halls, at, changed(there, name, rest, more, 0)))


def lead_over(books, halls, moment, name, hall):
    at = place_found(halls, name)
    check_hall(books, hall)
    there = hall_at(books[at], halls[at], moment)
    rest = rest_of(there, name)
    # In its own hall it is led neither out nor in, and needs no room.
    if hall != at:
        check_room(books, halls, hall)
        other = hall_at(books[hall], halls[hall], moment)
        halls = replaced(halls, at, changed(there, name, None, 0, rest))
        halls = replaced(halls, hall, changed(other, name, rest, rest, 0))
    return ((moment, "led", name, hall, rest), halls)


ACTIONS = {"come": come_in, "go": go_out, "call": call_up, "lull": lull_on, "lead": lead_over}


def done(books, halls, moment, deed):
    """What a deed makes of the halls as they were left: a tuple (its row of the story, the halls), or its refusal."""
    word, *parts = deed
    action = ACTIONS[word]
    return action(books, halls, moment, *parts)
