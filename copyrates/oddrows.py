"""The checks of rows of odds, factors and says, and what each place's odds come to alone."""

from copyrates.errors import BadOdds
from copyrates.kinds import is_row
from copyrates.ratios import compare, fraction_of, is_fraction, lowest, total_of


def is_odd(value):
    """Tell whether the value is a fraction above 0."""
    return is_fraction(value) and compare(value, 0) > 0


def is_factor(value):
    """Tell whether the value is a fraction of 1 or more."""
    return is_fraction(value) and compare(value, 1) >= 0


def checked_row(value, size, is_right):
    """Return a row of `size` fractions that are all right, or raise BadOdds."""
    if not is_row(value) or len(value) != size:
        raise BadOdds(-1)
    for at, entry in enumerate(value):
        if not is_right(entry):
            raise BadOdds(at)
    return tuple([fraction_of(entry, "odds") for entry in value])


def odds_row(value, size):
    """Return a row of `size` fractions above 0, or raise BadOdds."""
    return checked_row(value, size, is_odd)


def factors_row(value, size):
    """Return a row of `size` fractions of 1 or more, or raise BadOdds."""
    return checked_row(value, size, is_factor)


def says_row(value, size):
    """Return a row of `size` fractions above 0 with the sum 1, or raise BadOdds."""
    told = odds_row(value, size)
    if total_of(told) != (1, 1):
        raise BadOdds(-1)
    return told


def lone_chance(odd):
    """Return o / (1 + o), the chance of a place with the odds o that is drawn by itself."""
    top, bottom = odd
    return lowest(top, top + bottom)
