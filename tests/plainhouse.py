"""A house gone through beat by beat from its beginning, apart from the package: what the tests hold House against."""

from plainly import step

WORDS = {"come": "came", "go": "went", "call": "called", "lull": "lulled", "lead": "led"}


class Refused(Exception):
    """A deed was refused: by which refusal, with which field, at which place among the deeds."""

    def __init__(self, word, field, at):
        super().__init__(word, field, at)
        self.word, self.field, self.at = word, field, at


class PlainHouse:
    """All that [90] to [94] tell, of lists of lengths; deeds are tuples (moment, deed), in the order of the story."""

    def __init__(self, books):
        self.books = books
        self.deeds = []
        self.now = 0
        self.past = []
        self.undone = []

    def gone(self):
        """The halls, ledgers and the story as they are now, and the halls behind each moment."""
        return run(self.books, self.deeds, self.now)

    def turn(self, deeds, now):
        run(self.books, deeds, now)
        self.past.append((self.deeds, self.now))
        self.undone = []
        self.deeds, self.now = deeds, now

    def do(self, deed):
        """The number of the deed in the story."""
        self.turn(self.deeds + [(self.now, deed)], self.now)
        return self.gone()["story"][-1][4]

    def wait(self, beats):
        self.turn(self.deeds, self.now + beats)

    def put_in(self, beat, deed):
        if beat > self.now:
            raise Refused("NoBeat", beat, None)
        ahead = [row for row in self.deeds if row[0] <= beat]
        later = [row for row in self.deeds if row[0] > beat]
        before = self.gone()["halls"]
        try:
            self.turn(ahead + [(beat, deed)] + later, self.now)
        except Refused as refused:
            if refused.at == len(ahead):
                raise
            raise Refused("Stopped", refused.at - 1, None) from None
        behind = self.gone()["halls"]
        return [at for at in range(len(behind)) if before[at] != behind[at]]

    def back(self):
        if not self.past:
            raise Refused("Nothing", None, None)
        self.undone.append((self.deeds, self.now))
        self.deeds, self.now = self.past.pop()

    def again(self):
        if not self.undone:
            raise Refused("Nothing", None, None)
        self.past.append((self.deeds, self.now))
        self.deeds, self.now = self.undone.pop()


def run(books, deeds, now):
    halls = [{} for book in books]
    ledgers = [[0, 0, 0, 0] for book in books]
    story = []
    moments = []
    left = list(enumerate(deeds))
    for moment in range(now + 1):
        while left and left[0][1][0] == moment:
            at, (when, deed) = left.pop(0)
            story.append(do(books, halls, ledgers, moment, deed, at))
        moments.append([told(hall) for hall in halls])
        if moment < now:
            for at, book in enumerate(books):
                ledgers[at][1] += len(halls[at])
                halls[at], up = step(book, halls[at])
                if up:
                    ledgers[at][0] += len(up) * book[len(up) - 1]
    return {"halls": moments[-1], "ledgers": [tuple(row) for row in ledgers], "story": story, "moments": moments}


def told(hall):
    return tuple(sorted(hall.items()))


def do(books, halls, ledgers, moment, deed, at):
    word = deed[0]
    name = deed[2] if word == "come" else deed[1]
    there = [k for k, hall in enumerate(halls) if name in hall]
    if word == "come":
        hall, rest = deed[1], deed[3]
        check_hall(halls, hall, at)
        if there:
            raise Refused("Twice", name, at)
        check_room(books, halls, hall, at)
        halls[hall][name] = rest
        ledgers[hall][2] += rest
        return (moment, "came", name, hall, rest)
    if not there:
        raise Refused("NoSleeper", name, at)
    own = there[0]
    rest = halls[own][name]
    if word == "go":
        del halls[own][name]
        ledgers[own][3] += rest
    elif word == "call":
        halls[own][name] = 1
        ledgers[own][3] += rest - 1
    elif word == "lull":
        halls[own][name] += deed[2]
        ledgers[own][2] += deed[2]
        return (moment, "lulled", name, own, deed[2])
    else:
        hall = deed[2]
        check_hall(halls, hall, at)
        if hall != own:
            check_room(books, halls, hall, at)
            del halls[own][name]
            halls[hall][name] = rest
            ledgers[own][3] += rest
            ledgers[hall][2] += rest
        own = hall
    return (moment, WORDS[word], name, own, rest)


def check_hall(halls, hall, at):
    if hall >= len(halls):
        raise Refused("NoHall", hall, at)


def check_room(books, halls, hall, at):
    if len(halls[hall]) >= len(books[hall]):
        raise Refused("Full", len(books[hall]), at)
