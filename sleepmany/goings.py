"""Goings: tuples (first, length), up at the beat first and from then on each length later."""

from sleepmany.kinds import is_whole
from sleepmany.numbers import divisor, inverse


def rest_behind(going, beats):
    first, length = going
    if beats < first:
        return first - beats
    return length - (beats - first) % length


def times_up(going, beats):
    first, length = going
    if beats < first:
        return 0
    return (beats - first) // length + 1


def last_up(going, beat):
    first, length = going
    if beat <= first:
        return 0
    return beat - 1 - (beat - 1 - first) % length


def next_up(goings, beat):
    rests = [rest_behind(going, beat) for going in goings]
    least = min(rests)
    return (beat + least, [at for at, rest in enumerate(rests) if rest == least])


def do_meet(one, other):
    return (one[0] - other[0]) % divisor(one[1], other[1]) == 0


def meeting(one, other):
    if not do_meet(one, other):
        return None
    first, length = one
    start, step = other
    shared = divisor(length, step)
    turns = (start - first) // shared * inverse(length // shared, step // shared) % (step // shared)
    beat = first + turns * length
    # So far the least from the first of the one on; the other may not have begun by then.
    together = length // shared * step
    if beat < start:
        beat += (start - beat + together - 1) // together * together
    return beat


def falling_in(one, other):
    beat = meeting(one, other)
    if beat is None:
        return None
    return max(last_up(one, beat), last_up(other, beat))


def parting_of(one, other):
    if do_meet(one, other):
        return None
    return divisor(one[1], other[1])


def is_parting(one, other, thing):
    if not is_whole(thing) or thing < 1:
        return False
    if one[1] % thing != 0 or other[1] % thing != 0:
        return False
    return (one[0] - other[0]) % thing != 0
