"""A desk that keeps a house and is told rows of text."""

from sleepmany.beats import counts_of
from sleepmany.deeds import PARTS
from sleepmany.errors import NoHouse, NoLine, NoText
from sleepmany.house import MOST_HALLS, House
from sleepmany.kinds import GREATEST_BEATS, GREATEST_REST
from sleepmany.rests import rest_from
from sleepmany.standings import heap_of
from sleepmany.texts import figures_of, read_book, read_name, read_number, show_counts, show_standing, show_story

MOST_HEARD = 60
DONE = "ok"

# What stands behind the first word of a row, but of house, late and the house's own deeds.
FORMS = {
    "wait": ("beats",),
    "back": (),
    "again": (),
    "now": (),
    "hall": ("hall",),
    "was": ("hall", "beats"),
    "ledger": ("hall",),
    "story": (),
    "heard": ("hall", "few"),
    "rest": ("hall",),
}


def read_part(kind, word):
    if kind == "name":
        return read_name(word)
    if kind == "rest":
        return read_number(word, 1, GREATEST_REST)
    if kind == "few":
        return read_number(word, 1, MOST_HEARD)
    return read_number(word, 0, GREATEST_BEATS)


def read_parts(kinds, words):
    if len(kinds) != len(words):
        raise NoText()
    return [read_part(kind, word) for kind, word in zip(kinds, words)]


def read_deed(words):
    """The deed that these words tell, a tuple."""
    if not words or words[0] not in PARTS:
        raise NoText()
    return (words[0], *read_parts(PARTS[words[0]], words[1:]))


def read_books(words):
    books = [read_book(text) for text in " ".join(words).split(" / ")]
    if len(books) > MOST_HALLS:
        raise NoText()
    return books


def read_line(row):
    """A tuple: the word by which a row is answered, and the list of things that it tells."""
    if not isinstance(row, str):
        raise NoText()
    word, *words = row.split(" ")
    if word == "house":
        return (word, read_books(words))
    if word == "late":
        return (word, [*read_parts(("beats",), words[:1]), read_deed(words[1:])])
    if word in PARTS:
        return ("deed", [read_deed([word, *words])])
    if word not in FORMS:
        raise NoText()
    return (word, read_parts(FORMS[word], words))


def say_deed(house, deed):
    number = house.do_now(deed)
    return DONE + " " + figures_of(number) if deed[0] in ("go", "call") else DONE


def say_late(house, beat, deed):
    return show_counts(house.put_in(beat, deed))


def say_wait(house, beats):
    house.wait(beats)
    return DONE


def say_back(house):
    house.back()
    return DONE


def say_again(house):
    house.again()
    return DONE


def say_now(house):
    return figures_of(house.now())


def say_hall(house, hall):
    return show_standing(house.standing(hall))


def say_was(house, hall, beat):
    return show_standing(house.was(hall, beat))


def say_ledger(house, hall):
    return show_counts(house.ledger(hall))


def say_story(house):
    return show_story(house.story())


def say_heard(house, hall, beats):
    # The standing first: it refuses a hall that there isn't.
    heap = heap_of(house.standing(hall))
    return show_counts(counts_of(house.books()[hall], heap, beats))


def say_rest(house, hall):
    standing = house.standing(hall)
    return figures_of(rest_from(house.books()[hall], standing))


ANSWERS = {
    "deed": say_deed,
    "late": say_late,
    "wait": say_wait,
    "back": say_back,
    "again": say_again,
    "now": say_now,
    "hall": say_hall,
    "was": say_was,
    "ledger": say_ledger,
    "story": say_story,
    "heard": say_heard,
    "rest": say_rest,
}


class Desk:
    """It keeps no house till a row tells of one."""

    def __init__(self):
        self.house = None

    def say(self, row):
        try:
            word, things = read_line(row)
        except NoText:
            raise NoLine() from None
        if word == "house":
            self.house = House(things)
            return DONE
        if self.house is None:
            raise NoHouse()
        answer = ANSWERS[word]
        return answer(self.house, *things)
