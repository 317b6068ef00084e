"""Exact fractions as pairs (p, d) in lowest terms."""

from math import gcd

from copyrates.errors import BadFraction, BadNumber
from copyrates.kinds import is_row, is_whole


def lowest(top, bottom):
    """Return top / bottom in lowest terms, for whole numbers with bottom not 0."""
    shared = gcd(top, bottom)
    if bottom < 0:
        shared = -shared
    return (top // shared, bottom // shared)


def ratio(top, bottom=1):
    """Return the fraction top / bottom."""
    if not is_whole(top):
        raise BadNumber("top")
    if not is_whole(bottom) or bottom == 0:
        raise BadNumber("bottom")
    return lowest(top, bottom)


def is_fraction(value):
    """Tell whether the value may be passed as a fraction."""
    if is_whole(value):
        return True
    if not is_row(value) or len(value) != 2:
        return False
    return is_whole(value[0]) and is_whole(value[1]) and value[1] >= 1


def fraction_of(value, name):
    """Return the value as a fraction, or raise BadFraction(name)."""
    if not is_fraction(value):
        raise BadFraction(name)
    if is_whole(value):
        return (value, 1)
    return lowest(value[0], value[1])


def above_zero(value, name):
    """Return the value as a fraction above 0, or raise BadFraction(name)."""
    told = fraction_of(value, name)
    if told[0] <= 0:
        raise BadFraction(name)
    return told


def from_one(value, name):
    """Return the value as a fraction of 1 or more, or raise BadFraction(name)."""
    told = fraction_of(value, name)
    if told[0] < told[1]:
        raise BadFraction(name)
    return told


def lot_row(value):
    """Return the value as a list of fractions, one for each lot of 2 to 5 places, or raise BadFraction("row")."""
    if not is_row(value) or len(value) not in (4, 8, 16, 32):
        raise BadFraction("row")
    return [fraction_of(entry, "row") for entry in value]


def added(a, b):
    """Return the fraction a + b."""
    top, bottom = fraction_of(a, "a")
    other_top, other_bottom = fraction_of(b, "b")
    return lowest(top * other_bottom + other_top * bottom, bottom * other_bottom)


def less(a, b):
    """Return the fraction a - b."""
    top, bottom = fraction_of(a, "a")
    other_top, other_bottom = fraction_of(b, "b")
    return lowest(top * other_bottom - other_top * bottom, bottom * other_bottom)


def times(a, b):
    """Return the fraction a * b."""
    top, bottom = fraction_of(a, "a")
    other_top, other_bottom = fraction_of(b, "b")
    return lowest(top * other_top, bottom * other_bottom)


def over(a, b):
    """Return the fraction a / b; b is refused if it is worth 0."""
    top, bottom = fraction_of(a, "a")
    other_top, other_bottom = fraction_of(b, "b")
    if other_top == 0:
        raise BadFraction("b")
    return lowest(top * other_bottom, bottom * other_top)


def compare(a, b):
    """Return -1, 0 or 1 if a is less than, worth the same as, or greater than b."""
    top, bottom = fraction_of(a, "a")
    other_top, other_bottom = fraction_of(b, "b")
    gap = top * other_bottom - other_top * bottom
    if gap == 0:
        return 0
    return 1 if gap > 0 else -1


def total_of(rows):
    """Return the sum of a row of fractions."""
    if not is_row(rows):
        raise BadFraction("rows")
    total = (0, 1)
    for entry in rows:
        total = added(total, fraction_of(entry, "rows"))
    return total


def greatest_of(told):
    """Return the greatest one of a row of fractions, which is not empty."""
    best = told[0]
    for entry in told:
        if compare(entry, best) > 0:
            best = entry
    return best


def least_of(told):
    """Return the least one of a row of fractions, which is not empty."""
    best = told[0]
    for entry in told:
        if compare(entry, best) < 0:
            best = entry
    return best
