"""Choices of so many out of a list, counted and told by number, as tuples go."""


def ways_to_choose(among, many):
    """In how many ways so many can be chosen out of so many."""
    ways = 1
    for one in range(1, many + 1):
        ways = ways * (among - many + one) // one
    return ways


def choice_of(among, many, number):
    """The choice of so many out of a rising list that has this number."""
    chosen = []
    for at, one in enumerate(among):
        left = many - len(chosen)
        if left == 0:
            break
        # Those that take this one come ahead of those that don't.
        taking = ways_to_choose(len(among) - at - 1, left - 1)
        if number < taking:
            chosen.append(one)
        else:
            number -= taking
    return chosen


def number_of_choice(among, chosen):
    """The number that this choice out of a rising list has."""
    number = 0
    left = len(chosen)
    for at, one in enumerate(among):
        if left == 0:
            break
        if one in chosen:
            left -= 1
        else:
            number += ways_to_choose(len(among) - at - 1, left - 1)
    return number
