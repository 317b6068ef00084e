"""Lots told by their numbers: place i of a lot is the bit 1 << i."""

from copyrates.errors import BadLot
from copyrates.kinds import is_between, is_row


def mask_of(value, size):
    """Return the number of the lot that was passed, or raise BadLot."""
    if not is_row(value):
        raise BadLot(None)
    mask = 0
    for entry in value:
        if not is_between(entry, 0, size - 1) or (mask >> entry) & 1 == 1:
            raise BadLot(entry)
        mask = mask | (1 << entry)
    return mask


def some_mask(value, size):
    """Return the number of the lot that was passed, or raise BadLot; () is refused, too."""
    mask = mask_of(value, size)
    if mask == 0:
        raise BadLot(None)
    return mask


def lot_in(mask):
    """Return the lot with this number."""
    return tuple([place for place in range(mask.bit_length()) if (mask >> place) & 1 == 1])


def masks_within(mask):
    """Return the numbers of all lots of places of the lot with this number, ascending."""
    return [number for number in range(mask + 1) if number & mask == number]


def high_mask(grades, grade):
    """Return the number of the lot of all places with this grade or more."""
    mask = 0
    for place, own in enumerate(grades):
        if own >= grade:
            mask = mask | (1 << place)
    return mask


def mask_above_zero(row):
    """Return the number of the lot of all indices whose entry is above 0."""
    return high_mask(row, 1)
