"""Numbers of any size, and fractions: tuples (top, bottom) in lowest terms, (0, 1) for nought."""


def divisor(one, other):
    while other:
        one, other = other, one % other
    return one


def multiple(one, other):
    return one // divisor(one, other) * other


def fraction(top, bottom):
    shared = divisor(top, bottom)
    return (top // shared, bottom // shared)


def total(fractions):
    so_far = (0, 1)
    for top, bottom in fractions:
        # Lowest terms at each step keep the numbers from growing with the list.
        so_far = fraction(so_far[0] * bottom + top * so_far[1], so_far[1] * bottom)
    return so_far


def order(one, other):
    left = one[0] * other[1]
    right = other[0] * one[1]
    if left < right:
        return -1
    return 1 if left > right else 0


def inverse(number, by):
    """What, times the number, leaves 1 by `by`, where only 1 divides both; 0 by 1."""
    last, present = 0, 1
    greater, lesser = by, number % by
    while lesser:
        times = greater // lesser
        greater, lesser = lesser, greater - times * lesser
        last, present = present, last - times * present
    return last % by


def power(number, times):
    """The number times itself so often; 1 where that is never."""
    worth = 1
    for again in range(times):
        worth *= number
    return worth
