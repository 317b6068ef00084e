"""Lots: sets of places, told as tuples in ascending order."""

from copyrates.kinds import ask_number
from copyrates.masks import lot_in, mask_of


def ask_size(size):
    """Raise BadNumber("size") unless the size is one of this module."""
    ask_number(size, "size", 1, 12)


def lot_of(value, size):
    """Return the value as a lot."""
    ask_size(size)
    return lot_in(mask_of(value, size))


def number_of(lot, size):
    """Return the number of the lot."""
    ask_size(size)
    return mask_of(lot, size)


def lot_at(number, size):
    """Return the lot with this number."""
    ask_size(size)
    ask_number(number, "number", 0, (1 << size) - 1)
    return lot_in(number)


def all_lots(size):
    """Return all lots in the order of their numbers."""
    ask_size(size)
    return tuple([lot_in(number) for number in range(1 << size)])


def rest_of(lot, size):
    """Return the lot of all places that are not in the lot."""
    ask_size(size)
    return lot_in((1 << size) - 1 - mask_of(lot, size))
