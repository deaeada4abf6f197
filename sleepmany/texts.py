"""Texts: how books, standings, heaps, strokes, rows, counts and stories are written, and most of them read back."""

from sleepmany.books import Book
from sleepmany.errors import NoText
from sleepmany.kinds import GREATEST_LENGTH, MOST_SLEEPERS, is_name

MOST_STROKES = 40
MOST_FIGURES = 60
BEYOND = 10 ** 60
FIGURES = "0123456789"
# Stands for what has no parts.
NOTHING = "-"


def figures_of(number):
    written = ""
    # Python writes only so many figures at once, and rests may be of any size.
    while number >= BEYOND:
        number, low = divmod(number, BEYOND)
        written = str(low).zfill(MOST_FIGURES) + written
    return str(number) + written


def joined_words(words):
    return " ".join(words) if words else NOTHING


def show_counts(counts):
    return joined_words([figures_of(count) for count in counts])


def show_book(book):
    return show_counts(book.lengths())


def show_standing(standing):
    return joined_words([name + ":" + figures_of(rest) for name, rest in standing])


def show_heap(heap):
    return show_counts(heap)


def show_stroke(stroke):
    return joined_words(stroke)


def show_row(row):
    return "".join([show_stroke(stroke) + "\n" for stroke in row])


def show_story_row(row):
    now, word, name, hall, number = row
    return " ".join([figures_of(now), word, name, figures_of(hall), figures_of(number)])


def show_story(story):
    return "".join([show_story_row(row) + "\n" for row in story])


def read_number(text, least, greatest):
    """The number from a least to a greatest, of at most sixty figures, that a text writes."""
    if not 1 <= len(text) <= MOST_FIGURES or not all([sign in FIGURES for sign in text]):
        raise NoText()
    if text[0] == "0" and text != "0":
        raise NoText()
    number = int(text)
    if not least <= number <= greatest:
        raise NoText()
    return number


def read_rest(text):
    return read_number(text, 1, BEYOND - 1)


def read_name(text):
    if not is_name(text):
        raise NoText()
    return text


def words_of(text):
    """The words that a text writes, at most as many as sleepers there can be."""
    if not isinstance(text, str):
        raise NoText()
    words = [] if text == NOTHING else text.split(" ")
    if len(words) > MOST_SLEEPERS:
        raise NoText()
    return words


def read_book(text):
    lengths = [read_number(word, 1, GREATEST_LENGTH) for word in words_of(text)]
    if not lengths:
        raise NoText()
    return Book(lengths)


def read_sleeper(word):
    name, colon, rest = word.partition(":")
    return (read_name(name), read_rest(rest))


def read_standing(text):
    standing = [read_sleeper(word) for word in words_of(text)]
    names = [name for name, rest in standing]
    if names != sorted(set(names)):
        raise NoText()
    return tuple(standing)


def read_heap(text):
    heap = [read_rest(word) for word in words_of(text)]
    if heap != sorted(heap):
        raise NoText()
    return tuple(heap)


def read_stroke(text):
    names = [read_name(word) for word in words_of(text)]
    if len(set(names)) != len(names):
        raise NoText()
    return names


def read_row(text):
    if not isinstance(text, str):
        raise NoText()
    # Each stroke has a line feed behind it, so nothing is left behind the last one.
    *strokes, left = text.split("\n")
    if left != "" or len(strokes) > MOST_STROKES:
        raise NoText()
    return [read_stroke(stroke) for stroke in strokes]
