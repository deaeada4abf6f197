"""Led back: what was ahead of now, by how many were up at each beat."""

from sleepmany.beats import beat
from sleepmany.choices import choice_of, number_of_choice, ways_to_choose
from sleepmany.errors import NoRow, NotSo, NoWay
from sleepmany.standings import heap_of


def heap_ahead(book, heap, many):
    """The heap ahead of a beat at which so many were up, None where there is none."""
    at = 0
    if many > 0:
        if many > len(book) or heap.count(book.sleep(many)) < many:
            return None
        at = heap.index(book.sleep(many))
    others = heap[:at] + heap[at + many:]
    return (1,) * many + tuple([rest + 1 for rest in others])


def heaps_back(book, heap, counts):
    heaps = [heap]
    for at in range(len(counts) - 1, -1, -1):
        ahead = heap_ahead(book, heaps[-1], counts[at])
        if ahead is None:
            raise NoWay(at)
        heaps.append(ahead)
    return heaps[::-1]


def ways_up(book, behind, many):
    """In how many ways so many can be chosen who were up at the beat that led to this heap."""
    if many == 0:
        return 1
    return ways_to_choose(behind.count(book.sleep(many)), many)


def ways_by_beats(book, standing, counts):
    heaps = heaps_back(book, heap_of(standing), counts)
    return [ways_up(book, heaps[at + 1], many) for at, many in enumerate(counts)]


def product(numbers):
    worth = 1
    for number in numbers:
        worth *= number
    return worth


def histories(book, standing, counts):
    return product(ways_by_beats(book, standing, counts))


def may_have_been_up(book, behind, many):
    """The names of those who have, behind a beat, the rest for so many; nobody for none."""
    return [name for name, rest in behind if many > 0 and rest == book.sleep(many)]


def standing_ahead(behind, names):
    """The standing ahead of a beat at which these were up."""
    return tuple([(name, 1 if name in names else rest + 1) for name, rest in behind])


def history(book, standing, counts, number):
    ways = ways_by_beats(book, standing, counts)
    left = product(ways)
    if number >= left:
        raise NoRow(number)
    standings = [standing]
    for at in range(len(counts) - 1, -1, -1):
        # The last beat weighs most: each of its choices goes with all of the beats ahead.
        left //= ways[at]
        place, number = divmod(number, left)
        among = may_have_been_up(book, standings[-1], counts[at])
        standings.append(standing_ahead(standings[-1], choice_of(among, counts[at], place)))
    return standings[::-1]


def number_of(book, standings):
    counts = []
    number = 0
    weight = 1
    for ahead, behind in zip(standings, standings[1:]):
        made, names = beat(book, ahead)
        if made != behind:
            raise NotSo()
        among = may_have_been_up(book, behind, len(names))
        number += weight * number_of_choice(among, names)
        weight *= ways_to_choose(len(among), len(names))
        counts.append(len(names))
    return (counts, number)
