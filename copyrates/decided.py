"""Decided rows of own marks: which lots are their juries, and the shortest rows."""

from copyrates.linking import ask_linked
from copyrates.marks import own_marks
from copyrates.masks import lot_in, mask_above_zero, some_mask
from copyrates.runtables import step_mask
from copyrates.searching import least_rows


def jury_mask(world, jury):
    """Return the number of a lot that is not (), for a linked world."""
    ask_linked(world)
    return some_mask(jury, world.size)


def called_from(world, place, mask):
    """Return how many places of the lot are reached from the place by its calling ties."""
    inside = [lot_in(mask_above_zero(row) & mask) for row in world.calls]
    return len(least_rows([place], lambda at: [(other, other) for other in inside[at]]))


def gathered(world, jury):
    """Return the least place from which the whole lot is reached by its calling ties, or None."""
    mask = jury_mask(world, jury)
    lot = lot_in(mask)
    for place in lot:
        if called_from(world, place, mask) == len(lot):
            return place
    return None


def spreading(world, place):
    """Return own takes that give all places the grade of the place."""
    lookers = [[i for i in range(world.size) if world.takes[i][j] > 0] for j in range(world.size)]
    rows = least_rows([place], lambda at: [((i, at, "take"), i) for i in lookers[at]])
    # The search finds each place behind the one that it copies, and a row ends with its own take.
    return tuple([row[-1] for row in list(rows.values()) if len(row) > 0])


def decided_row(world, jury):
    """Return a decided row of own marks with just this jury, or None.

    Behind the marks that step one place back to the jury, takes spread its grade.
    """
    mask = jury_mask(world, jury)
    marks = own_marks(world)
    singles = [1 << place for place in range(world.size)]
    rows = least_rows(singles, lambda at: [(mark, step_mask(mark, at)) for mark in marks])
    if mask not in rows:
        return None
    steps = rows[mask]
    # Each step of a least row changes the lot, so the first one steps back the place it begins with.
    first = steps[0][0] if len(steps) > 0 else lot_in(mask)[0]
    return steps[::-1] + spreading(world, first)
