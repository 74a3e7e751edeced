"""The errors that the package raises, one class for each kind of failure."""


class InvalidProgram(ValueError):
    """No program; index is that of the first wrong item, or None."""

    def __init__(self, index):
        self.index = index


class InvalidPicks(ValueError):
    """No picks for a cut of the program."""


class InvalidPrices(ValueError):
    """No prices."""


class InvalidClaim(ValueError):
    """No claim, or one that is not valid for the program."""


class NotAllowed(ValueError):
    """The stretch that begins at this place is not allowed."""

    def __init__(self, place):
        self.place = place


class ParseError(ValueError):
    """A text that does not fit; line is the index of the first wrong line."""

    def __init__(self, line):
        self.line = line


class UnknownItem(LookupError):
    """No item has this index."""

    def __init__(self, index):
        self.index = index


class UnknownPrice(LookupError):
    """There is no such price."""

    def __init__(self, which):
        self.which = which


class UnknownCheckpoint(LookupError):
    """No checkpoint has this number."""

    def __init__(self, number):
        self.number = number


class UnknownRecord(LookupError):
    """No record has this number."""

    def __init__(self, number):
        self.number = number


class TooGreat(OverflowError):
    """The program is greater than the limit lets it be."""

    def __init__(self, limit):
        self.limit = limit


class LimitExceeded(OverflowError):
    """As many as the limit lets be were made already."""

    def __init__(self, limit):
        self.limit = limit
