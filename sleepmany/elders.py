"""Elders: what could lead to a standing where nobody heard anything, and heaps that nothing led to."""

from sleepmany.back import heap_ahead, history, ways_up
from sleepmany.errors import NoRow, TooMany
from sleepmany.standings import heap_of

MOST_HEAPS = 1000


def counts_ahead(book, heap):
    """How many can have been up at the beat that led to a heap, rising; nobody always can."""
    often = {}
    for rest in heap:
        often[rest] = often.get(rest, 0) + 1
    lengths = book.lengths()[:len(heap)]
    return [0] + [many for many, length in enumerate(lengths, start=1) if often.get(length, 0) >= many]


def steps_ahead(book, heap, counts, ways):
    """All ways one beat further back: tuples as level_ahead has them."""
    steps = []
    for many in counts_ahead(book, heap):
        steps.append((heap_ahead(book, heap, many), [many, *counts], ways * ways_up(book, heap, many)))
    return steps


def level_ahead(book, standing, beats):
    """All heaps that lead to a standing's in just so many beats: tuples (heap, counts, how many standings).

    Each step back keeps the order, and takes the lesser counts first: so they go by the last beat's count, then by
    that of the beat ahead of it, and so on.
    """
    level = [(heap_of(standing), [], 1)]
    for again in range(beats):
        level = [step for heap, counts, ways in level for step in steps_ahead(book, heap, counts, ways)]
        if len(level) > MOST_HEAPS:
            raise TooMany(MOST_HEAPS)
    return level


def elder_heaps(book, standing, beats, greatest):
    """Tuples (counts, how many standings) of those heaps whose rests go up to the greatest at most."""
    level = level_ahead(book, standing, beats)
    return [(counts, ways) for heap, counts, ways in level if max(heap, default=0) <= greatest]


def elders(book, standing, beats, greatest):
    return sum([ways for counts, ways in elder_heaps(book, standing, beats, greatest)])


def elder(book, standing, beats, greatest, number):
    left = number
    for counts, ways in elder_heaps(book, standing, beats, greatest):
        if left < ways:
            return history(book, standing, counts, left)[0]
        left -= ways
    raise NoRow(number)


def is_garden(book, heap):
    return counts_ahead(book, heap) == [0]


def gardens(book, many, greatest):
    lengths = book.lengths()
    # By place how many heaps there are of so many sleepers, with the rests gone through so far.
    heaps = [1] + [0] * many
    for rest in range(1, greatest + 1):
        # The least k that sleeps so long stands at place k - 1: just so many may have this rest.
        most = lengths.index(rest) if rest in lengths else many
        heaps = [sum(heaps[max(0, place - most):place + 1]) for place in range(many + 1)]
    return heaps[many]
