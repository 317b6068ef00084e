"""What one factor for all ties comes to near its ends: as it grows, and near 1."""

from copyrates.linking import ask_small
from copyrates.masks import lot_in
from copyrates.meeting import time_parts
from copyrates.pairwalks import pairs_across, unlike_pairs
from copyrates.ratios import compare, lowest, over, times, total_of
from copyrates.sayrows import say_parts


def strong_end(world):
    """Return the strong end K of the web, a row by lots."""
    ask_small(world)
    takes, found = world.takes, [(1, 1)]
    for mask in range(1, (1 << world.size) - 1):
        across = pairs_across(world.size, mask)
        parts = []
        for i in lot_in(mask):
            out = sum([takes[one][other] for one, other in across if one == i])
            parts.append(times(found[mask - (1 << i)], out))
        found.append(over(total_of(parts), sum([takes[other][one] for one, other in across])))
    return tuple(found + [(0, 1)])


def weak_end(world):
    """Return the weak end of the web."""
    ask_small(world)
    says, say_whole = say_parts(world)
    # The mean numbers of steps are told over W0, by which the sum is divided.
    whole, parts = time_parts(world, unlike_pairs(list(range(world.size))))
    total = sum([says[i] * world.takes[i][j] * parts[(i, j)] for i, j in world.ties()])
    return lowest(total, world.size * say_whole * whole)


def verdict_near_one(world):
    """Return 1, 0 or -1 if the weak end is above, equal to or below that of even takes."""
    return compare(weak_end(world), lowest(world.size - 1, 2 * world.size))
