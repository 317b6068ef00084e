"""Jury steps: lots that marks step back, drawn by their rates."""

from copyrates.marks import own_marks, rate_of
from copyrates.runtables import step_mask


def back_rates(world, mask):
    """Return a dict from each other lot to which one mark steps the lot back, to the sum of the rates of such marks.

    All lots are told by their numbers.
    """
    rates = {}
    for mark in own_marks(world):
        reached = step_mask(mark, mask)
        if reached != mask:
            rates[reached] = rates.get(reached, 0) + rate_of(world, mark)
    return rates
