"""Beats, gone through one by one, with calls ahead of them or without."""


def rest_after(book, rest, many):
    """The rest that one with this rest has behind a beat at which so many are up."""
    return book.sleep(many) if rest == 1 else rest - 1


def beat(book, standing):
    names = [name for name, rest in standing if rest == 1]
    behind = [(name, rest_after(book, rest, len(names))) for name, rest in standing]
    return (tuple(behind), names)


def beat_of_heap(book, heap):
    many = heap.count(1)
    behind = [rest_after(book, rest, many) for rest in heap]
    return (tuple(sorted(behind)), many)


def called(book, standing, stroke):
    woken = [(name, 1 if name in stroke else rest) for name, rest in standing]
    return beat(book, tuple(woken))


def ups_of(book, standing, row):
    ups = []
    for stroke in row:
        standing, names = called(book, standing, stroke)
        ups.append(names)
    return ups


def counts_of(book, heap, beats):
    counts = []
    for again in range(beats):
        heap, many = beat_of_heap(book, heap)
        counts.append(many)
    return counts
