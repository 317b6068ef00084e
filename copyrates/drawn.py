"""Drawn lots: what the chances of lots, or the chances to meet them, tell.

A row of whole numbers by lots, at the index of each lot's number, stands for chances over one whole.
"""

from copyrates.kinds import ask_number
from copyrates.masks import high_mask, lot_in, some_mask
from copyrates.ratios import lowest, times, total_of

# The least number that all numbers of places of a world divide.
SHARED = 60


def meeting_row(tops):
    """Return for each lot the sum of the parts of the lots that meet it."""
    masks = range(len(tops))
    return [sum([part for other, part in enumerate(tops) if other & mask != 0]) for mask in masks]


def some_chance(whole, tops, lot, size):
    """Return the chance of a lot that is not (), checked."""
    return lowest(tops[some_mask(lot, size)], whole)


def sized_chance(whole, tops, number, size):
    """Return the chance that the drawn lot has just so many places."""
    ask_number(number, "number", 1, size)
    return lowest(sum([part for mask, part in enumerate(tops) if len(lot_in(mask)) == number]), whole)


def size_mean(whole, tops):
    """Return the mean number of places of the drawn lot."""
    return lowest(sum([part * len(lot_in(mask)) for mask, part in enumerate(tops)]), whole)


def share_mean(whole, tops, place):
    """Return the mean of 1 divided by the number of places of the drawn lot if the place is in it, and of 0 if not."""
    parts = [
        part * (SHARED // len(lot_in(mask))) for mask, part in enumerate(tops) if (mask >> place) & 1 == 1
    ]
    return lowest(sum(parts), SHARED * whole)


def greatest_chances(whole, meets, grades):
    """Return each grade with the chance, above 0, that it is the greatest over the drawn lot, grades ascending.

    `meets` has the parts of the lots that meet each lot.
    """
    found = []
    above = 0
    for grade in sorted(set(grades))[::-1]:
        mask = high_mask(grades, grade)
        if meets[mask] > above:
            found.append((grade, lowest(meets[mask] - above, whole)))
        above = meets[mask]
    return tuple(found[::-1])


def mean_of(chances):
    """Return the mean of the grades with these chances."""
    return total_of([times(chance, grade) for grade, chance in chances])
