"""Books: how long those sleep that were up together, by how many they were."""

from sleepmany.errors import TooGreat, Wrong
from sleepmany.kinds import GREATEST_LENGTH, MOST_SLEEPERS, is_length, is_within


def are_lengths(thing):
    if not isinstance(thing, list) or not 1 <= len(thing) <= MOST_SLEEPERS:
        return False
    return all([is_length(part) for part in thing])


class Book:
    """The k-th of its lengths is how long k sleepers sleep that were up together."""

    def __init__(self, lengths):
        if not are_lengths(lengths):
            raise Wrong(0)
        # A tuple of its own: nothing done to the list later reaches the book.
        self.kept = tuple(lengths)

    def lengths(self):
        return list(self.kept)

    def sleep(self, many):
        if not is_within(many, 1, len(self.kept)):
            raise Wrong(0)
        return self.kept[many - 1]

    def __eq__(self, other):
        return isinstance(other, Book) and self.kept == other.kept

    def __len__(self):
        return len(self.kept)

    def __repr__(self):
        return f"Book({list(self.kept)})"


def plain(many):
    if not is_within(many, 1, MOST_SLEEPERS):
        raise Wrong(0)
    return Book(list(range(1, many + 1)))


def slower_book(book, by):
    lengths = [length * by for length in book.lengths()]
    for length in lengths:
        if length > GREATEST_LENGTH:
            raise TooGreat(length)
    return Book(lengths)
