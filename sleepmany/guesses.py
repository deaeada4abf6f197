"""Guesses: which heaps fit to knocks, and which books to counts."""

from sleepmany.beats import beat_of_heap
from sleepmany.books import Book
from sleepmany.choices import ways_to_choose
from sleepmany.errors import NoRow, TooMany
from sleepmany.hearing import can_be_heard
from sleepmany.numbers import power

MOST_HEAPS = 1000
MOST_BOOKS = 4000


def heaps_up_to(many, greatest):
    """All heaps of so many sleepers with rests up to a greatest, as tuples go."""
    heaps = [()]
    for again in range(many):
        heaps = [(*heap, rest) for heap in heaps for rest in range(heap[-1] if heap else 1, greatest + 1)]
    return heaps


def is_knocked(book, heap, knocks):
    for knock in knocks:
        heap, many = beat_of_heap(book, heap)
        if (many > 0) != knock:
            return False
    return True


def heaps_knocked(book, many, greatest, knocks):
    if ways_to_choose(greatest - 1 + many, many) > MOST_HEAPS:
        raise TooMany(MOST_HEAPS)
    return [heap for heap in heaps_up_to(many, greatest) if is_knocked(book, heap, knocks)]


def knocked(book, many, greatest, knocks):
    return len(heaps_knocked(book, many, greatest, knocks))


def heap_knocked(book, many, greatest, knocks, number):
    heaps = heaps_knocked(book, many, greatest, knocks)
    if number >= len(heaps):
        raise NoRow(number)
    return heaps[number]


def lists_over(heard, many, longest):
    """All lists of so many lengths, as lists go, with lengths for the counts that are heard, and 0 elsewhere."""
    lists = [[]]
    for count in range(1, many + 1):
        lengths = list(range(1, longest + 1)) if count in heard else [0]
        lists = [[*ahead, length] for ahead in lists for length in lengths]
    return lists


def does_fit(lengths, counts):
    # A length that is never asked for may be any one: 1 stands for all of them.
    return can_be_heard(Book([max(length, 1) for length in lengths]), counts, len(lengths))


def fitting(counts, many, longest):
    """The lists of lengths that fit, with 0 for each length that may be any one."""
    heard = sorted(set([count for count in counts if 1 <= count <= many]))
    if power(longest, len(heard)) > MOST_BOOKS:
        raise TooMany(MOST_BOOKS)
    return [lengths for lengths in lists_over(heard, many, longest) if does_fit(lengths, counts)]


def fitting_with(fits, at, length):
    return [lengths for lengths in fits if lengths[at] in (0, length)]


def books_among(fits, at, longest):
    """How many books these lists stand for, by their lengths from a place on."""
    return sum([power(longest, lengths[at:].count(0)) for lengths in fits])


def books_heard(counts, many, longest):
    return books_among(fitting(counts, many, longest), 0, longest)


def book_heard(counts, many, longest, number):
    fits = fitting(counts, many, longest)
    if number >= books_among(fits, 0, longest):
        raise NoRow(number)
    told = []
    for at in range(many):
        length = 1
        share = books_among(fitting_with(fits, at, length), at + 1, longest)
        while number >= share:
            number -= share
            length += 1
            share = books_among(fitting_with(fits, at, length), at + 1, longest)
        fits = fitting_with(fits, at, length)
        told.append(length)
    return told
