"""Halls gone through beat by beat on dicts, apart from the package: what the tests hold it against."""

import itertools
import random

ALPHABET = "abcdefghijklmnopqrstuvwxyz"

# Some things of every kind, none of them a number.
NO_NUMBERS = [
    None, True, False, "", "1", "a", "abc", b"", b"1", (), (1,), (1, 2), ("a", 1), [], [1], ["a"], [[]], {}, {1: 2},
    {"a": 1}, set(), {1}, frozenset(), object(), len,
]


def chance(seed):
    """The same row of numbers each time."""
    return random.Random(seed)


def names_of(many):
    return [ALPHABET[k // 26] + ALPHABET[k % 26] for k in range(many)]


def step(lengths, rests, stroke=()):
    """One beat on a dict of rests: the dict behind it, and who was up."""
    rests = {name: 1 if name in stroke else rest for name, rest in rests.items()}
    up = sorted(name for name, rest in rests.items() if rest == 1)
    behind = {}
    for name, rest in rests.items():
        behind[name] = lengths[len(up) - 1] if name in up else rest - 1
    return behind, up


def walk(lengths, standing, beats):
    """The standings behind 0, 1, .. beats, and who was up at each of them (nobody at 0)."""
    rests = dict(standing)
    standings = [tuple(sorted(rests.items()))]
    ups = [[]]
    for again in range(beats):
        rests, up = step(lengths, rests)
        standings.append(tuple(sorted(rests.items())))
        ups.append(up)
    return standings, ups


def some_hall(numbers, many, longest, greatest, spare=0):
    """Lengths for so many sleepers (and some to spare), and a standing of so many, as luck has it."""
    lengths = [numbers.randint(1, longest) for again in range(max(1, many + spare))]
    standing = tuple((name, numbers.randint(1, greatest)) for name in names_of(many))
    return lengths, standing


def spoil(thing):
    """Change every list within what was told, so that whoever shares one would see it."""
    if isinstance(thing, list):
        for part in thing:
            spoil(part)
        thing.append("spoilt")
        thing.reverse()
    elif isinstance(thing, tuple):
        for part in thing:
            spoil(part)


def beat_of(lengths, standing):
    """One beat on a standing: the standing behind it, and who was up."""
    rests, up = step(lengths, dict(standing))
    return tuple(sorted(rests.items())), up


def all_standings(names, greatest):
    """All standings of these names with rests up to a greatest."""
    return [tuple(zip(names, rests)) for rests in itertools.product(range(1, greatest + 1), repeat=len(names))]
