"""Halls without hands, however far: groups are gone through from falling in to falling in, not beat by beat."""

from sleepmany.goings import falling_in, meeting, next_up, rest_behind, times_up
from sleepmany.standings import groups_of


class Life:
    """A group, from the beat behind which it is there to the one at which it falls in with another."""

    def __init__(self, names, going, born):
        self.names = names
        # Its first is always behind its birth, so all that is told of the going is the group's own.
        self.going = going
        self.born = born
        # None as long as nothing is known that ends it.
        self.end = None


def joined(book, one, other, beat):
    """The life that begins where these two fall in."""
    one.end = other.end = beat
    names = tuple(sorted(one.names + other.names))
    return Life(names, (meeting(one.going, other.going), book.sleep(len(names))), beat)


def note_fallings(lives, at, due):
    """Put down at which beats the life at this place would fall in with those that stand ahead of it."""
    for place in range(at):
        if lives[place].end is None:
            beat = falling_in(lives[place].going, lives[at].going)
            if beat is not None:
                due[(place, at)] = beat


def first_due(due):
    first = None
    for pair in due:
        if first is None or due[pair] < due[first]:
            first = pair
    return first


def lives_of(book, standing):
    """All groups that ever are, as they come to be."""
    lives = [Life(names, (rest, book.sleep(len(names))), 0) for rest, names in groups_of(standing)]
    due = {}
    for at in range(len(lives)):
        note_fallings(lives, at, due)
    while due:
        one, other = first_due(due)
        lives.append(joined(book, lives[one], lives[other], due[(one, other)]))
        # The two are no more, so whatever else they would have fallen in with, they never do.
        due = {pair: due[pair] for pair in due if one not in pair and other not in pair}
        note_fallings(lives, len(lives) - 1, due)
    return lives


def lives_behind(lives, beats):
    """Those that are there behind so many beats."""
    return [life for life in lives if life.born <= beats and (life.end is None or beats < life.end)]


def times_in(life, beats):
    """How often this group is up at the beats from 1 to a number."""
    return times_up(life.going, beats if life.end is None else min(life.end, beats))


def fallings(book, standing):
    lives = lives_of(book, standing)
    told = []
    for beat in [life.born for life in lives if life.born > 0]:
        # At one beat two at most fall in; the one with the least rest ahead of it was up.
        two = sorted([(rest_behind(life.going, beat - 1), life.names) for life in lives if life.end == beat])
        told.append((beat, two[0][1], two[1][1]))
    return told


def far(book, standing, beats):
    rests = {}
    for life in lives_behind(lives_of(book, standing), beats):
        for name in life.names:
            rests[name] = rest_behind(life.going, beats)
    return tuple([(name, rests[name]) for name, rest in standing])


def up_at(book, standing, beat):
    return [name for name, rest in far(book, standing, beat - 1) if rest == 1]


def ups_from(book, standing, beat, many):
    lives = lives_of(book, standing)
    told = []
    now = beat - 1
    while lives and len(told) < many:
        there = lives_behind(lives, now)
        now, places = next_up([life.going for life in there], now)
        # All that have one rest are one group: only one is up at a beat.
        told.append((now, there[places[0]].names))
    return told


def times_of(book, standing, name, beats):
    return sum([times_in(life, beats) for life in lives_of(book, standing) if name in life.names])


def beats_with(book, standing, beats):
    return sum([times_in(life, beats) for life in lives_of(book, standing)])


def all_told(book, standing, beats):
    return sum([times_in(life, beats) * len(life.names) for life in lives_of(book, standing)])


def given_over(book, standing, beats):
    given = 0
    for life in lives_of(book, standing):
        many = len(life.names)
        given += times_in(life, beats) * many * book.sleep(many)
    return given
