"""Two walks in a steady linked world: when they meet, and where they stand till then."""

from copyrates.exchange import pair_of
from copyrates.kinds import ask_steady
from copyrates.linking import ask_small
from copyrates.masks import mask_of
from copyrates.pairwalks import pair_rows, pair_table, pairs_across, unlike_pairs
from copyrates.ratios import lowest
from copyrates.sayrows import say_parts
from copyrates.solving import solved


def ask_walked(world):
    """Raise an error unless the world is linked, steady and not too great."""
    ask_small(world)
    ask_steady(world)


def time_parts(world, counted):
    """Return (whole, parts): how long two walks begun at each pair stand at the counted pairs of unlike places.

    The mean number of steps ahead of which they do so is W * parts[pair] / whole.
    """
    pairs = unlike_pairs(list(range(world.size)))
    whole, tops = solved([row + [1 if pair in counted else 0] for pair, row in zip(pairs, pair_rows(world.takes))])
    return (whole, {pair: row[0] for pair, row in zip(pairs, tops)})


def step_table(world, parts, whole):
    """Return the table of the mean numbers of steps W * parts[pair] / whole."""
    total = world.total
    return pair_table(world.size, {pair: total * part for pair, part in parts.items()}, whole)


def meetings(world):
    """Return the table of the mean numbers of steps till two walks have met."""
    ask_walked(world)
    whole, parts = time_parts(world, unlike_pairs(list(range(world.size))))
    return step_table(world, parts, whole)


def meeting_sum(world):
    """Return the sum over all ties of twice the squared say times the take times the time to meet, over W."""
    ask_walked(world)
    worths, say_whole = say_parts(world)
    whole, parts = time_parts(world, unlike_pairs(list(range(world.size))))
    total = sum([worths[i] * worths[i] * world.takes[i][j] * parts[(i, j)] for i, j in world.ties()])
    return lowest(2 * total, say_whole * say_whole * whole)


def apart(world, lot):
    """Return the table of the mean numbers of steps ahead of which j has grade 1 and i has grade 0."""
    ask_walked(world)
    whole, parts = time_parts(world, pairs_across(world.size, mask_of(lot, world.size)))
    return step_table(world, parts, whole)


def visits(world, pair):
    """Return the table of the mean numbers of steps ahead of which the walks begun at the pair stand at each pair."""
    ask_walked(world)
    first = pair_of(pair, world.size)
    pairs = unlike_pairs(list(range(world.size)))
    rows = pair_rows(world.takes)
    # What the pairs get from one another is told by the columns.
    columns = [[row[at] for row in rows] + [1 if own == first else 0] for at, own in enumerate(pairs)]
    whole, tops = solved(columns)
    return step_table(world, {own: row[0] for own, row in zip(pairs, tops)}, whole)
