"""The errors of the package, one for each kind of failure."""


class NoLetter(LookupError):
    """The letter is none of those there are."""

    def __init__(self, letter):
        self.letter = letter


class NoPlace(LookupError):
    """The number is no place of the ring."""

    def __init__(self, place):
        self.place = place


class NothingDone(LookupError):
    """There is nothing to take back, or to do once more."""


class BadText(ValueError):
    """The text has a fault in this line."""

    def __init__(self, line):
        self.line = line


class Broken(ValueError):
    """The plan can't go on at this place of it."""

    def __init__(self, place):
        self.place = place


class CanNot(ValueError):
    """What is asked for is not there."""


class TooMany(ValueError):
    """There would be more than a stated limit."""


class Unfit(ValueError):
    """What is passed in is not what it must be."""
