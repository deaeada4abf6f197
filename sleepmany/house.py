"""A house of halls: deeds done by hand at its moments, undone, done once more, and put in late."""

from sleepmany.books import Book
from sleepmany.deeds import check_hall, done, empty_hall, hall_at, is_deed, wrong_part
from sleepmany.errors import NoBeat, Nothing, SleepError, Stopped, Wrong
from sleepmany.kinds import are_beats, is_number

MOST_HALLS = 4


def are_books(thing):
    if not isinstance(thing, list) or not 1 <= len(thing) <= MOST_HALLS:
        return False
    return all([isinstance(part, Book) for part in thing])


class Page:
    """A deed of the story and the halls as it left them. It is never changed, so houses may share it."""

    def __init__(self, ahead, deed, row, halls):
        # The page ahead of it, None of the first one, which is of no deed.
        self.ahead = ahead
        self.deed = deed
        self.row = row
        self.halls = halls


def page_behind(books, page, moment, deed):
    """The page that a deed makes, done at a moment behind another page, or its refusal."""
    row, halls = done(books, page.halls, moment, deed)
    return Page(page, deed, row, halls)


def page_at(page, beat):
    """The last page, from this one back, that is of no later moment."""
    while page.ahead is not None and page.row[0] > beat:
        page = page.ahead
    return page


def pages_to(page):
    """The pages of all deeds up to this one, in order."""
    pages = []
    while page.ahead is not None:
        pages.append(page)
        page = page.ahead
    return pages[::-1]


def done_once_more(books, page, later, at):
    """The page that the deeds of later ones make behind another page; the first of them has this place in the story."""
    for place, other in enumerate(later, start=at):
        try:
            page = page_behind(books, page, other.row[0], other.deed)
        except SleepError:
            raise Stopped(place) from None
    return page


class House:
    """One to four halls, each with its book, and one story."""

    def __init__(self, books):
        if not are_books(books):
            raise Wrong(0)
        self.shelf = tuple(books)
        self.page = Page(None, None, None, tuple([empty_hall() for book in books]))
        self.moment = 0
        # Tuples (page, moment): as it was ahead of each deed that stands, waits too, and behind each that was undone.
        self.past = []
        self.undone = []

    def turn_to(self, page, moment):
        """A deed was done, and this is how it leaves the house."""
        self.past.append((self.page, self.moment))
        self.undone = []
        self.page = page
        self.moment = moment

    def do_now(self, deed):
        """Do a deed, and tell the number that it has in the story."""
        at = wrong_part(deed)
        if at is not None:
            raise Wrong(at)
        self.turn_to(page_behind(self.shelf, self.page, self.moment, deed), self.moment)
        return self.page.row[4]

    def come(self, hall, name, rest):
        self.do_now(("come", hall, name, rest))

    def go(self, name):
        return self.do_now(("go", name))

    def call(self, name):
        return self.do_now(("call", name))

    def lull(self, name, more):
        self.do_now(("lull", name, more))

    def lead(self, name, hall):
        self.do_now(("lead", name, hall))

    def wait(self, beats):
        if not are_beats(beats):
            raise Wrong(0)
        self.turn_to(self.page, self.moment + beats)

    def put_in(self, beat, deed):
        if not is_number(beat):
            raise Wrong(0)
        if not is_deed(deed):
            raise Wrong(1)
        if beat > self.moment:
            raise NoBeat(beat)
        pages = pages_to(self.page)
        later = [page for page in pages if page.row[0] > beat]
        late = page_behind(self.shelf, page_at(self.page, beat), beat, deed)
        last = done_once_more(self.shelf, late, later, len(pages) - len(later))
        ahead = self.all_standings()
        self.turn_to(last, self.moment)
        return [hall for hall, sleepers in enumerate(self.all_standings()) if sleepers != ahead[hall]]

    def back(self):
        if not self.past:
            raise Nothing()
        self.undone.append((self.page, self.moment))
        self.page, self.moment = self.past.pop()

    def again(self):
        if not self.undone:
            raise Nothing()
        self.past.append((self.page, self.moment))
        self.page, self.moment = self.undone.pop()

    def now(self):
        return self.moment

    def story(self):
        return [page.row for page in pages_to(self.page)]

    def all_standings(self):
        return [self.standing(hall) for hall in range(len(self.shelf))]

    def standing(self, hall):
        return self.was(hall, self.moment)

    def was(self, hall, beat):
        if not is_number(hall):
            raise Wrong(0)
        if not is_number(beat):
            raise Wrong(1)
        check_hall(self.shelf, hall)
        if beat > self.moment:
            raise NoBeat(beat)
        return hall_at(self.shelf[hall], page_at(self.page, beat).halls[hall], beat).sleepers

    def ledger(self, hall):
        if not is_number(hall):
            raise Wrong(0)
        check_hall(self.shelf, hall)
        return hall_at(self.shelf[hall], self.page.halls[hall], self.moment).sums

    def books(self):
        return list(self.shelf)

    def copied(self):
        other = House(list(self.shelf))
        other.page = self.page
        other.moment = self.moment
        other.past = list(self.past)
        other.undone = list(self.undone)
        return other
