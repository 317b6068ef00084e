"""The checks of rows of odds, factors and says."""

from copyrates.errors import BadOdds
from copyrates.kinds import is_row
from copyrates.ratios import fraction_of, is_fraction, total_of


def odds_row(value, size):
    """Return a row of `size` fractions above 0, or raise BadOdds."""
    if not is_row(value) or len(value) != size:
        raise BadOdds(-1)
    for at, entry in enumerate(value):
        if not is_fraction(entry) or fraction_of(entry, "odds")[0] <= 0:
            raise BadOdds(at)
    return tuple([fraction_of(entry, "odds") for entry in value])


def says_row(value, size):
    """Return a row of `size` fractions above 0 with the sum 1, or raise BadOdds."""
    told = odds_row(value, size)
    if total_of(told) != (1, 1):
        raise BadOdds(-1)
    return told
