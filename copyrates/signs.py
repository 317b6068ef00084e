"""Differences of win, and of any row by lots."""

from math import lcm

from copyrates.differences import difference_at, difference_row
from copyrates.errors import BadLot
from copyrates.masks import lot_in, mask_of, some_mask
from copyrates.ratios import lot_row, lowest
from copyrates.wins import win_parts


def difference(world, base, extra):
    """Return the difference of win at the lot `base` by the lot `extra`."""
    whole, parts = win_parts(world)
    low = mask_of(base, world.size)
    more = some_mask(extra, world.size)
    common = lot_in(low & more)
    if len(common) > 0:
        raise BadLot(common[0])
    return lowest(difference_at(parts, low, more), whole)


def from_row(row):
    """Return for each lot T, but (), the difference of the row by lots at the rest of T by T."""
    told = lot_row(row)
    whole = 1
    for top, bottom in told:
        whole = lcm(whole, bottom)
    return tuple([lowest(part, whole) for part in difference_row([top * (whole // bottom) for top, bottom in told])])
