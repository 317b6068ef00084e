"""The errors that the package raises, each with its one attribute."""


class RatesError(ValueError):
    """The base class of all errors of this package."""


class BadNumber(RatesError):
    """A number of the wrong kind or range; `name` tells the parameter."""

    def __init__(self, name):
        self.name = name


class BadFraction(RatesError):
    """No fraction, or one out of range; `name` tells the parameter."""

    def __init__(self, name):
        self.name = name


class Fixed(RatesError):
    """An attribute that cannot be assigned; `name` tells which one."""

    def __init__(self, name):
        self.name = name


class BadPlace(RatesError):
    """`place` is the value that is no place."""

    def __init__(self, place):
        self.place = place


class BadTie(RatesError):
    """`tie` is the value that is no tie."""

    def __init__(self, tie):
        self.tie = tie


class BadLot(RatesError):
    """`place` is the first wrong entry of the lot, or None."""

    def __init__(self, place):
        self.place = place


class BadTable(RatesError):
    """`row` is the first wrong row, or -1 for the table as a whole."""

    def __init__(self, row):
        self.row = row


class BadGrades(RatesError):
    """`at` is the first wrong index, or -1 for the whole row."""

    def __init__(self, at):
        self.at = at


class BadMark(RatesError):
    """`at` is the first wrong index, or -1 for the whole row."""

    def __init__(self, at):
        self.at = at


class BadBlocks(RatesError):
    """`place` is a place that does not stand just once, or -1."""

    def __init__(self, place):
        self.place = place


class BadOdds(RatesError):
    """`place` is the first place with wrong odds, or -1."""

    def __init__(self, place):
        self.place = place


class NotLinked(RatesError):
    """`lot` is the closed mixed lot with the least number."""

    def __init__(self, lot):
        self.lot = lot


class NotHeld(RatesError):
    """`lot` is a head of two or more places, or ()."""

    def __init__(self, lot):
        self.lot = lot


class HasCalls(RatesError):
    """`tie` is the least calling tie."""

    def __init__(self, tie):
        self.tie = tie


class ManyHeads(RatesError):
    """`number` is how many heads the world has."""

    def __init__(self, number):
        self.number = number


class TooMany(RatesError):
    """`number` is how many places there are."""

    def __init__(self, number):
        self.number = number


class OtherSize(RatesError):
    """`size` is the size of the second object."""

    def __init__(self, size):
        self.size = size


class NoDeed(RatesError):
    """No deed stands that could be taken back."""
