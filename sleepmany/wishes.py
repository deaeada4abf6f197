"""Wishes: with how few calls one is brought about, by a row of told strokes, or that it never is."""

from sleepmany.beats import called
from sleepmany.errors import TooMany
from sleepmany.kinds import is_number
from sleepmany.standings import groups_of, is_standing, names_in


def meets(standing, wish):
    word, what = wish
    if word == "groups":
        return len(groups_of(standing)) == what
    return len(set([rest for name, rest in standing if name in what])) == 1


def lot_of(book, standing, strokes, most):
    """The lot, and for each of its standings the places in it to which the strokes lead."""
    lot = [standing]
    places = {standing: 0}
    leads = []
    while len(leads) < len(lot):
        there = lot[len(leads)]
        led = []
        for stroke in strokes:
            behind = called(book, there, stroke)[0]
            if behind not in places:
                if len(lot) == most:
                    raise TooMany(most)
                places[behind] = len(lot)
                lot.append(behind)
            led.append(places[behind])
        leads.append(led)
    return (lot, leads)


def best_step(costs, led, strokes):
    """The least cost by one of the strokes and what is behind it, None where none leads to the wish."""
    found = []
    for stroke, place in zip(strokes, led):
        if costs[place] is not None:
            calls, many = costs[place]
            found.append((calls + len(stroke), many + 1))
    return min(found, default=None)


def costs_of(lot, leads, strokes, wish):
    """For each of the lot the fewest calls to the wish and the fewest strokes with these, None where none lead."""
    costs = [(0, 0) if meets(there, wish) else None for there in lot]
    settled = False
    while not settled:
        settled = True
        # From the last on: most strokes lead to what was met later, so few rounds are needed.
        for at in range(len(lot) - 1, -1, -1):
            best = best_step(costs, leads[at], strokes)
            if best is not None and (costs[at] is None or best < costs[at]):
                costs[at] = best
                settled = False
    return costs


def priced(lot, costs):
    return [(there, None if cost is None else cost[0]) for there, cost in zip(lot, costs)]


def prices(book, standing, strokes, wish, *, most=200):
    lot, leads = lot_of(book, standing, strokes, most)
    return priced(lot, costs_of(lot, leads, strokes, wish))


def cheapest_row(leads, costs, strokes):
    """The first row, by places, of those from the lot's first standing to the wish at just its cost."""
    row = []
    at = 0
    while costs[at] != (0, 0):
        calls, many = costs[at]
        for stroke, place in zip(strokes, leads[at]):
            if costs[place] == (calls - len(stroke), many - 1):
                row.append(list(stroke))
                at = place
                break
    return row


def fewest(book, standing, strokes, wish, *, most=200):
    lot, leads = lot_of(book, standing, strokes, most)
    costs = costs_of(lot, leads, strokes, wish)
    if costs[0] is None:
        return ("never", priced(lot, costs))
    return ("row", cheapest_row(leads, costs, strokes))


def named_in(strokes, wish):
    """All names that the strokes and the wish name."""
    word, what = wish
    names = list(what) if word == "together" else []
    for stroke in strokes:
        names.extend(stroke)
    return names


def is_price_tag(book, needed, thing):
    """Whether a thing is a tuple of a standing of the book, with all who are needed, and a price."""
    if not isinstance(thing, tuple) or len(thing) != 2 or not is_standing(thing[0]):
        return False
    there = names_in(thing[0])
    if len(there) > len(book) or not all([name in there for name in needed]):
        return False
    return thing[1] is None or is_number(thing[1])


def is_more(price, calls, other):
    """Whether a price is more than so many calls and the other price, together."""
    if other is None:
        return False
    return price is None or price > calls + other


def is_fairly_priced(book, strokes, wish, tags, standing):
    price = tags[standing]
    if meets(standing, wish) and price != 0:
        return False
    for stroke in strokes:
        behind = called(book, standing, stroke)[0]
        if behind not in tags or is_more(price, len(stroke), tags[behind]):
            return False
    return True


def is_fair(book, strokes, wish, thing):
    needed = named_in(strokes, wish)
    if not isinstance(thing, list) or not all([is_price_tag(book, needed, part) for part in thing]):
        return False
    tags = {standing: price for standing, price in thing}
    if len(tags) != len(thing):
        return False
    return all([is_fairly_priced(book, strokes, wish, tags, standing) for standing in tags])
