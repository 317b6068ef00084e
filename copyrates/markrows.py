"""Sums of weights over all rows of a number of own marks."""

from copyrates.kinds import ask_at_most, ask_number
from copyrates.marks import own_marks, rate_of
from copyrates.masks import mask_of
from copyrates.ratios import lowest
from copyrates.runtables import step_mask


def done_mask(mark, mask):
    """Return the number of the lot of grades 1 after the mark, from that ahead of it."""
    i, j, word = mark
    copied = (mask >> j) & 1
    if word == "call":
        copied = copied | ((mask >> i) & 1)
    return (mask | (1 << i)) - ((1 - copied) << i)


def sourced(mark, masks):
    """Return the numbers of the lots of sources when the mark is put behind the others."""
    i, j, word = mark
    joined = masks[j] if word == "take" else masks[i] | masks[j]
    return masks[:i] + (joined,) + masks[i + 1:]


def weights_after(world, number, first, moved):
    """Return a dict from each state to the sum of the weights of the rows of marks that lead to it.

    The rows have this number of own marks; moved(mark, state) is the next state.
    """
    marks = [(mark, rate_of(world, mark)) for mark in own_marks(world)]
    sums = {first: 1}
    for _ in range(number):
        further = {}
        for state, worth in list(sums.items()):
            for mark, rate in marks:
                reached = moved(mark, state)
                further[reached] = further.get(reached, 0) + worth * rate
        sums = further
    return sums


def meeting_weight(sums, mask):
    """Return the sum of the weights of the lots that meet the one with this number."""
    return sum([worth for state, worth in sums.items() if state & mask != 0])


def asked(world, number, start, lot):
    """Return the numbers of the start and of the lot, all arguments checked."""
    ask_at_most(world, 5)
    ask_number(number, "number", 0, 30)
    return (mask_of(start, world.size), mask_of(lot, world.size))


def forward(world, number, start, lot):
    """Return the sum of the weights of the rows that leave a 1 in the lot from the start."""
    first, goal = asked(world, number, start, lot)
    return meeting_weight(weights_after(world, number, first, done_mask), goal)


def backward(world, number, start, lot):
    """Return the sum of the weights of the rows that step the lot back to one that meets the start."""
    goal, first = asked(world, number, start, lot)
    return meeting_weight(weights_after(world, number, first, step_mask), goal)


def decided_share(world, number):
    """Return for each lot the chance that the first marks form a decided row with this jury."""
    ask_at_most(world, 3)
    ask_number(number, "number", 0, 6)
    first = tuple([1 << place for place in range(world.size)])
    sums = weights_after(world, number, first, sourced)
    whole = 1
    for _ in range(number):
        whole = whole * world.total
    # Without ties no row has marks, and the rates sum to 0: nothing is divided.
    decided = [sums.get((mask,) * world.size, 0) for mask in range(1 << world.size)]
    return tuple([lowest(worth, whole) if worth > 0 else (0, 1) for worth in decided])
