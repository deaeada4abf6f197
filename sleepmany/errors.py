"""Refusals. Each keeps the very things it is made with; none is turned into a text, for they may be anything."""


class SleepError(ValueError):
    """All refusals stand under this one."""


class Wrong(SleepError):
    """The thing at this place among those handed in is not as told."""

    def __init__(self, at):
        self.at = at


class TooGreat(SleepError):
    """This length is above the greatest that is taken."""

    def __init__(self, length):
        self.length = length


class Twice(SleepError):
    """This name was told ahead."""

    def __init__(self, name):
        self.name = name


class NotSo(SleepError):
    """What was handed in has not what is asked of it."""


class TooMany(SleepError):
    """There are more than this many."""

    def __init__(self, most):
        self.most = most


class NoHall(SleepError):
    """There is no such hall: of this number, or in which the count at this place was heard."""

    def __init__(self, at):
        self.at = at


class NoRow(SleepError):
    """There are not so many that one has this number."""

    def __init__(self, number):
        self.number = number


class NoWay(SleepError):
    """The count at this place cannot have been."""

    def __init__(self, at):
        self.at = at


class Full(SleepError):
    """As many as a hall takes are there."""

    def __init__(self, most):
        self.most = most


class NoSleeper(SleepError):
    """Nobody of this name is in the house."""

    def __init__(self, name):
        self.name = name


class NoBeat(SleepError):
    """This moment is not gone yet."""

    def __init__(self, beat):
        self.beat = beat


class Nothing(SleepError):
    """There is no deed to undo, or to do once more."""


class Stopped(SleepError):
    """The deed at this place of the story would be refused."""

    def __init__(self, at):
        self.at = at


class NoText(SleepError):
    """This writes nothing."""


class NoLine(SleepError):
    """This is no row that a desk is told."""


class NoHouse(SleepError):
    """The desk keeps no house."""
