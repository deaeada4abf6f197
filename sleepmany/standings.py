"""Standings: tuples of tuples (name, rest), by names, no name twice."""

from sleepmany.errors import Twice, Wrong
from sleepmany.kinds import MOST_SLEEPERS, is_name, is_rest


def is_pair(thing):
    return isinstance(thing, tuple) and len(thing) == 2 and is_name(thing[0]) and is_rest(thing[1])


def are_sleepers(thing):
    if not isinstance(thing, list) or len(thing) > MOST_SLEEPERS:
        return False
    return all([is_pair(part) for part in thing])


def standing_of(pairs):
    if not are_sleepers(pairs):
        raise Wrong(0)
    rests = {}
    for name, rest in pairs:
        if name in rests:
            raise Twice(name)
        rests[name] = rest
    return tuple([(name, rests[name]) for name in sorted(rests)])


def heap_of(standing):
    return tuple(sorted([rest for name, rest in standing]))


def groups_of(standing):
    groups = {}
    for name, rest in standing:
        groups.setdefault(rest, []).append(name)
    return [(rest, tuple(groups[rest])) for rest in sorted(groups)]


def slower_standing(standing, by):
    return tuple([(name, rest * by) for name, rest in standing])
