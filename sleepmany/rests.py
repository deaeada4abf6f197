"""Standings at rest: those of which no two groups ever fall in any more."""

from sleepmany.errors import NotSo
from sleepmany.goings import is_parting, parting_of
from sleepmany.kinds import is_within
from sleepmany.leaps import lives_of
from sleepmany.numbers import multiple, total
from sleepmany.standings import groups_of


def goings_of(book, standing):
    return [(rest, book.sleep(len(names))) for rest, names in groups_of(standing)]


def partings_of(book, standing):
    """For each two groups a tuple (i, j, number): their places and their greatest parting, None where they meet."""
    goings = goings_of(book, standing)
    told = []
    for i in range(len(goings)):
        for j in range(i + 1, len(goings)):
            told.append((i, j, parting_of(goings[i], goings[j])))
    return told


def do_all_part(partings):
    return None not in [number for i, j, number in partings]


def is_at_rest(book, standing):
    return do_all_part(partings_of(book, standing))


def rest_from(book, standing):
    return max([life.born for life in lives_of(book, standing)], default=0)


def paper_of(book, standing):
    paper = partings_of(book, standing)
    if not do_all_part(paper):
        raise NotSo()
    return paper


def shows_parting(goings, thing):
    """Whether a thing is a row of a paper of these goings."""
    if not isinstance(thing, tuple) or len(thing) != 3:
        return False
    i, j, number = thing
    if not is_within(j, 0, len(goings) - 1) or not is_within(i, 0, j - 1):
        return False
    return is_parting(goings[i], goings[j], number)


def is_paper(book, standing, thing):
    goings = goings_of(book, standing)
    if not isinstance(thing, list) or not all([shows_parting(goings, row) for row in thing]):
        return False
    pairs = [(i, j) for i, j, number in thing]
    # All of them are pairs of places, so as many unlike ones as there are such pairs are all of these.
    return len(set(pairs)) == len(pairs) == len(goings) * (len(goings) - 1) // 2


def shares(book, standing):
    return total([(1, length) for first, length in goings_of(book, standing)])


def round_of(book, standing):
    lead, together = 0, 1
    for life in lives_of(book, standing):
        if life.end is None:
            first, length = life.going
            # A rest above the length is never had again, nor is a group that fell in.
            lead = max(lead, life.born, first - length)
            together = multiple(together, length)
    return (lead, together)
