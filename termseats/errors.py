"""The errors of the package.

Each keeps what it is made with in the fields that bear the names of its parameters.
"""


class SeatError(ValueError):
    """Any argument that is refused."""


class BadHouse(SeatError):
    """No house; place tells the first part of it that is wrong."""

    def __init__(self, place):
        self.place = place


class BadStand(SeatError):
    """No stand of the house."""

    def __init__(self, value):
        self.value = value


class BadChoices(SeatError):
    """No choices, or no rows of them (None); place is the number of the first that are none."""

    def __init__(self, place):
        self.place = place


class BadBand(SeatError):
    """No band; part tells the first part of it that is wrong."""

    def __init__(self, part):
        self.part = part


class BadNumber(SeatError):
    """No number of what it is to be the number of."""

    def __init__(self, value):
        self.value = value


class BadPaper(SeatError):
    """No paper on what it is to show; word tells the part that is wrong."""

    def __init__(self, word):
        self.word = word


class BadSeats(SeatError):
    """No seats of the house."""

    def __init__(self, value):
        self.value = value


class BadWards(SeatError):
    """No wards of the house."""

    def __init__(self, value):
        self.value = value


class BadWide(SeatError):
    """No wide house; place tells the first part of it that is wrong."""

    def __init__(self, place):
        self.place = place


class BadSeen(SeatError):
    """Not what can be seen (None); place is the number of the first thing that cannot."""

    def __init__(self, place):
        self.place = place


class BadPhases(SeatError):
    """No phases of the house."""

    def __init__(self, value):
        self.value = value


class BadText(SeatError):
    """No text of what is to be read; line and word tell where it goes wrong first."""

    def __init__(self, line, word):
        self.line = line
        self.word = word


class TooGreat(OverflowError):
    """More comes than the most that a function looks at."""

    def __init__(self, most):
        self.most = most
