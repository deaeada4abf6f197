"""Watchers: whether two halls can be told apart, alone or under told strokes."""

from sleepmany.beats import called
from sleepmany.errors import TooMany
from sleepmany.leaps import lives_of
from sleepmany.standings import is_standing, names_in


def parted_alone(one, other, standing):
    beats = []
    for life in lives_of(one, standing):
        up, length = life.going
        otherwise = other.sleep(len(life.names))
        # A group that falls in ahead of its first beat never goes to sleep as that group.
        if length != otherwise and (life.end is None or up <= life.end):
            beats.append(up + min(length, otherwise))
    return min(beats, default=None)


def step_of_both(one, other, pair, stroke, heard):
    """The pair behind a stroke done in both halls, and whether the same is told in both."""
    left, up = called(one, pair[0], stroke)
    right, others = called(other, pair[1], stroke)
    same = len(up) == len(others) if heard else up == others
    return ((left, right), same)


def row_to(ways, strokes, pair):
    """The row, as new lists, by which this pair was first met."""
    row = []
    while ways[pair] is not None:
        pair, at = ways[pair]
        row.append(list(strokes[at]))
    return row[::-1]


def told_apart(one, first, other, second, strokes, *, heard=False, most=200):
    pairs = [(first, second)]
    # For each pair that was met the one ahead of it and the place of the stroke between.
    ways = {pairs[0]: None}
    done = 0
    while done < len(pairs):
        pair = pairs[done]
        for at, stroke in enumerate(strokes):
            behind, same = step_of_both(one, other, pair, stroke, heard)
            if not same:
                return ("parted", [*row_to(ways, strokes, pair), list(stroke)])
            if behind not in ways:
                if len(pairs) == most:
                    raise TooMany(most)
                ways[behind] = (pair, at)
                pairs.append(behind)
        done += 1
    return ("alike", pairs)


def is_pair_of(names, thing):
    """Whether a thing is a tuple of two standings of just these names."""
    if not isinstance(thing, tuple) or len(thing) != 2:
        return False
    return all([is_standing(part) and names_in(part) == names for part in thing])


def is_led_into(one, other, pair, strokes, heard, pairs):
    """Whether each stroke leads a pair to one of these pairs, the same being told in both."""
    for stroke in strokes:
        behind, same = step_of_both(one, other, pair, stroke, heard)
        if not same or behind not in pairs:
            return False
    return True


def are_pairs(one, first, other, second, strokes, thing, *, heard=False):
    names = names_in(first)
    if not isinstance(thing, list) or not all([is_pair_of(names, part) for part in thing]):
        return False
    pairs = {pair: True for pair in thing}
    if len(pairs) != len(thing) or (first, second) not in pairs:
        return False
    return all([is_led_into(one, other, pair, strokes, heard, pairs) for pair in thing])
