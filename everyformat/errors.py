"""The errors that the functions of the package raise."""


class NoPlace(LookupError):
    """There is no such place, level or cell."""

    def __init__(self, place):
        LookupError.__init__(self, place)
        self.place = place


class NothingDone(LookupError):
    """Nothing is left that could be taken back."""


class BadLine(ValueError):
    """A line of a text is not as the document describes it."""

    def __init__(self, line):
        ValueError.__init__(self, line)
        self.line = line


class CanNot(ValueError):
    """What is asked for does not exist."""


class TooMuch(ValueError):
    """The question is greater than what the package decides."""


class Unfit(ValueError):
    """An argument does not fit what is asked of it."""
