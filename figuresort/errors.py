"""The refusals of the program."""


class SortError(ValueError):
    """Whatever the program refuses."""


class TooGreat(SortError):
    """A number needs more figures than it is given."""


class BadOrder(SortError):
    """What should be an order is none, or not of as many things."""


class NotRising(SortError):
    """A list that is to be merged doesn't rise: that of number place."""

    def __init__(self, place):
        SortError.__init__(self, f"list {place} does not rise")
        self.place = place


class BadRow(SortError):
    """A row of a desk's text isn't written as it should be: that of number line."""

    def __init__(self, line):
        SortError.__init__(self, f"row {line} is not written as it should be")
        self.line = line
