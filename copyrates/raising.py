"""Calls made greater, and which starts they help."""

from copyrates.kinds import ask_from, tie_of
from copyrates.linking import ask_small
from copyrates.masks import mask_of
from copyrates.pairwalks import pairs_across
from copyrates.shapes import line
from copyrates.worlds import World, with_entry


def raised(world, tie, number):
    """Return the world in which the call on the tie is greater by the number."""
    i, j = tie_of(world, tie)
    ask_from(number, "number", 1)
    return World(world.takes, calls=with_entry(world.calls, (i, j), world.calls[i][j] + number))


def helps(world, tie, lot):
    """Tell whether a greater call on the tie makes win of the lot greater."""
    ask_small(world)
    i, j = tie_of(world, tie)
    across = pairs_across(world.size, mask_of(lot, world.size))
    order = line(world)
    if order is None:
        return len(across) > 0
    # On a line two places never change their order, so j and i must stand as one inside and one outside do.
    upward = order.index(j) < order.index(i)
    return len([one for one, other in across if (order.index(one) < order.index(other)) == upward]) > 0
