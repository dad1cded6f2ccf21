"""The errors that the package raises."""


class NoPlace(LookupError):
    """An object, an area or a number that is not there."""

    def __init__(self, place):
        self.place = place


class NothingDone(LookupError):
    """There is no deed to take back or to do again."""


class BadLine(ValueError):
    """A line of a text that is none as told."""

    def __init__(self, line):
        self.line = line


class CanNot(ValueError):
    """What was asked for does not exist."""


class TooMuch(ValueError):
    """More than a bound allows."""


class Unfit(ValueError):
    """What was passed does not fit what it was passed with."""
