"""Standings: tuples of tuples (name, rest), by names, no name twice."""

from sleepmany.errors import Twice, Wrong
from sleepmany.kinds import MOST_SLEEPERS, is_name, is_number, is_rest


def is_sleeper(thing):
    """Whether a thing is a tuple of a name and a rest of any size."""
    if not isinstance(thing, tuple) or len(thing) != 2 or not is_name(thing[0]):
        return False
    return is_number(thing[1]) and thing[1] > 0


def is_standing(thing):
    """Whether a thing is a standing, with rests of any size."""
    if not isinstance(thing, tuple) or len(thing) > MOST_SLEEPERS:
        return False
    if not all([is_sleeper(part) for part in thing]):
        return False
    names = names_in(thing)
    return names == sorted(set(names))


def names_in(standing):
    return [name for name, rest in standing]


def is_pair(thing):
    return is_sleeper(thing) and is_rest(thing[1])


def are_sleepers(thing):
    if not isinstance(thing, list) or len(thing) > MOST_SLEEPERS:
        return False
    return all([is_pair(part) for part in thing])


def standing_of(pairs):
    if not are_sleepers(pairs):
        raise Wrong(0)
    rests = {}
    for name, rest in pairs:
        if name in rests:
            raise Twice(name)
        rests[name] = rest
    return tuple([(name, rests[name]) for name in sorted(rests)])


def heap_of(standing):
    return tuple(sorted([rest for name, rest in standing]))


def groups_of(standing):
    groups = {}
    for name, rest in standing:
        groups.setdefault(rest, []).append(name)
    return [(rest, tuple(groups[rest])) for rest in sorted(groups)]


def slower_standing(standing, by):
    return tuple([(name, rest * by) for name, rest in standing])
