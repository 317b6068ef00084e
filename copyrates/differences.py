"""Differences of numbers by lots."""

from copyrates.masks import lot_in, masks_within


def difference_at(row, base, extra):
    """Return the difference of the numbers at the lot `base` by the lot `extra`, both told by their numbers.

    `row` has a number at each index, or key, that is the number of a lot.
    """
    total = 0
    for mask in masks_within(extra):
        sign = 1 if len(lot_in(mask)) % 2 == 1 else -1
        total += sign * row[base | mask]
    return total


def difference_row(row):
    """Return for each lot T the difference of the row of numbers by lots at the rest of T by T, and 0 at ()."""
    full = len(row) - 1
    return [0] + [difference_at(row, full - mask, mask) for mask in range(1, len(row))]
