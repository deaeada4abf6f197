"""Kinds of things: each is asked of whatever is handed in, and tells True or False."""

GREATEST_LENGTH = 10 ** 9
GREATEST_REST = 10 ** 18
GREATEST_BEATS = 10 ** 30
MOST_LETTERS = 8
MOST_SLEEPERS = 40


def is_whole(thing):
    # A truth is an int to Python, but no number here.
    return isinstance(thing, int) and not isinstance(thing, bool)


def is_number(thing):
    return is_whole(thing) and thing >= 0


def is_within(thing, least, greatest):
    return is_whole(thing) and least <= thing <= greatest


def is_name(thing):
    if not isinstance(thing, str) or not 1 <= len(thing) <= MOST_LETTERS:
        return False
    return all(["a" <= sign <= "z" for sign in thing])


def is_length(thing):
    return is_within(thing, 1, GREATEST_LENGTH)


def is_rest(thing):
    return is_within(thing, 1, GREATEST_REST)


def are_beats(thing):
    return is_within(thing, 0, GREATEST_BEATS)


def is_stroke(thing):
    if not isinstance(thing, list) or len(thing) > MOST_SLEEPERS:
        return False
    # The set comes last: only names are sure to be fit for one.
    return all([is_name(part) for part in thing]) and len(set(thing)) == len(thing)
