"""Hearing: what those know of the rests who are told only how many are up at each beat."""

from sleepmany.choices import ways_to_choose
from sleepmany.errors import NoHall, NoRow


def new_ones(book, counts, many):
    due = {}
    unheard = many
    new = []
    for at, count in enumerate(counts):
        fresh = count - due.get(at, 0)
        if count > min(many, len(book)) or fresh < 0 or fresh > unheard:
            raise NoHall(at)
        if count > 0:
            back = at + book.sleep(count)
            due[back] = due.get(back, 0) + count
        unheard -= fresh
        new.append(fresh)
    return new


def can_be_heard(book, counts, many):
    try:
        new_ones(book, counts, many)
    except NoHall:
        return False
    return True


def heard_heap(book, counts, many):
    heap = []
    for at, fresh in enumerate(new_ones(book, counts, many)):
        heap.extend([at + 1] * fresh)
    return (tuple(heap), many - len(heap))


def unlike_at(book, one, other):
    # Heard unlike first is the least rest that they have unlike often, whatever the book.
    for left, right in zip(one, other):
        if left != right:
            return min(left, right)
    if len(one) == len(other):
        return None
    return max(one, other, key=len)[min(len(one), len(other))]


def parts_of(book, counts, many):
    """How many are not heard, then how many are new at each beat."""
    new = new_ones(book, counts, many)
    return [many - sum(new), *new]


def ways_to_deal(parts):
    """In how many ways rows can be made of so many 0, so many 1, and so on."""
    ways = 1
    many = 0
    for part in parts:
        many += part
        ways *= ways_to_choose(many, part)
    return ways


def dealings(book, counts, names):
    return ways_to_deal(parts_of(book, counts, len(names)))


def dealing(book, counts, names, number):
    parts = parts_of(book, counts, len(names))
    ways = ways_to_deal(parts)
    if number >= ways:
        raise NoRow(number)
    told = []
    for left in range(len(names), 0, -1):
        beat = 0
        # Of all ways each beat has its share, as often as it is left among so many.
        share = ways * parts[0] // left
        while number >= share:
            number -= share
            beat += 1
            share = ways * parts[beat] // left
        ways = share
        parts[beat] -= 1
        told.append(beat)
    return told
