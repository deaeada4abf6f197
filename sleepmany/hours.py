"""Hours: which sizes of groups can go on beside one another for ever, and what shows that others can't."""

from sleepmany.errors import TooGreat, TooMany
from sleepmany.kinds import is_whole, is_within
from sleepmany.numbers import divisor, multiple, order, total

GREATEST_SEARCHED = 12


def divisors_of(lengths):
    """A table: the greatest number that divides the lengths of both places."""
    return [[divisor(one, other) for other in lengths] for one in lengths]


def divisors_for(book, sizes):
    return divisors_of([book.sleep(size) for size in sizes])


def tried_of(divisors):
    """For each place how many hours, from 0 on, are tried."""
    tried = [1]
    for at in range(1, len(divisors)):
        many = 1
        for place in range(len(divisors)):
            if place != at:
                many = multiple(many, divisors[at][place])
        tried.append(many)
    return tried


def last_meets(divisors, hours, at):
    """Whether the last of these hours meets that of a place ahead."""
    return (hours[-1] - hours[at]) % divisors[len(hours) - 1][at] == 0


def least_met(divisors, hours):
    """The least place ahead that the last of these hours meets, None where there is none."""
    for at in range(len(hours) - 1):
        if last_meets(divisors, hours, at):
            return at
    return None


def are_hours(book, sizes, thing):
    if not isinstance(thing, list) or len(thing) != len(sizes):
        return False
    if not all([is_within(hour, 0, book.sleep(size) - 1) for hour, size in zip(thing, sizes)]):
        return False
    divisors = divisors_for(book, sizes)
    return all([least_met(divisors, thing[:many]) is None for many in range(1, len(thing) + 1)])


def next_hours(hours, tried):
    """Those tried next where the last of these is done with: [] where all are."""
    hours = list(hours)
    while hours and hours[-1] + 1 == tried[len(hours) - 1]:
        hours.pop()
    if hours:
        hours[-1] += 1
    return hours


def hours_of(book, sizes, *, most=400):
    divisors = divisors_for(book, sizes)
    tried = tried_of(divisors)
    rows = []
    hours = [0]
    many = 0
    while hours:
        many += 1
        if many > most:
            raise TooMany(most)
        at = least_met(divisors, hours)
        if at is not None:
            rows.append((tuple(hours), at))
            hours = next_hours(hours, tried)
        elif len(hours) == len(sizes):
            return ("rest", hours)
        else:
            hours.append(0)
    return ("never", rows)


def is_row(thing):
    if not isinstance(thing, tuple) or len(thing) != 2 or not isinstance(thing[0], tuple):
        return False
    return is_whole(thing[1]) and all([is_whole(hour) for hour in thing[0]])


def rows_used(divisors, tried, rows, hours):
    """How many of the rows cover this beginning, None where it is not covered."""
    if hours in rows:
        at = rows[hours]
        return 1 if 0 <= at < len(hours) - 1 and last_meets(divisors, hours, at) else None
    if len(hours) == len(divisors):
        return None
    used = 0
    for hour in range(tried[len(hours)]):
        more = rows_used(divisors, tried, rows, (*hours, hour))
        # At once: what is not covered may have more hours than can be gone through.
        if more is None:
            return None
        used += more
    return used


def are_rows(book, sizes, thing):
    if not isinstance(thing, list) or not all([is_row(row) for row in thing]):
        return False
    rows = {hours: at for hours, at in thing}
    divisors = divisors_for(book, sizes)
    # Of two rows with one beginning only one is counted here, so they come to less than all.
    return rows_used(divisors, tried_of(divisors), rows, (0,)) == len(thing)


def can_go_on(lengths, divisors, tried, hours):
    """Whether hours of which no two meet can be gone on with to all places, the lengths rising."""
    at = len(hours)
    if at == len(lengths):
        return True
    # Places of one length can change their hours with each other: one order stands for all.
    least = hours[-1] + 1 if lengths[at] == lengths[at - 1] else 0
    for hour in range(least, tried[at]):
        further = [*hours, hour]
        if least_met(divisors, further) is None and can_go_on(lengths, divisors, tried, further):
            return True
    return False


def can_rest(lengths):
    # At rest the shares come to 1 at most: that spares most of the searching.
    if order(total([(1, length) for length in lengths]), (1, 1)) > 0:
        return False
    divisors = divisors_of(lengths)
    return can_go_on(lengths, divisors, tried_of(divisors), [0])


def sizes_beyond(lengths, sizes, many):
    """The rising lists that begin with these sizes and have so many sleepers more, no two lengths without a divisor."""
    if many == 0:
        return [sizes]
    lists = []
    for size in range(sizes[-1] if sizes else 1, many + 1):
        if all([divisor(lengths[size - 1], lengths[other - 1]) > 1 for other in sizes]):
            lists.extend(sizes_beyond(lengths, [*sizes, size], many - size))
    return lists


def resting_sizes(lengths, many):
    return [sizes for sizes in sizes_beyond(lengths, [], many) if can_rest(sorted([lengths[k - 1] for k in sizes]))]


def sizes_of(book, many):
    lengths = book.lengths()[:many]
    for length in lengths:
        if length > GREATEST_SEARCHED:
            raise TooGreat(length)
    return resting_sizes(lengths, many)


def plain_sizes(many):
    return resting_sizes(list(range(1, many + 1)), many)
