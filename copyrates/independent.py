"""Independent worlds: the places of the jury are drawn by odds, told by gaps for pairs of places and for places."""

from copyrates.differences import difference_row
from copyrates.errors import BadPlace
from copyrates.kinds import ask_place
from copyrates.linking import ask_linked, ask_small
from copyrates.oddrows import lone_chance, odds_row
from copyrates.ratios import added, less, lowest, times, total_of
from copyrates.wins import win_parts


def tie_gap(world, told, i, j):
    """Return w_i * (o_i * t(i,j) - c(i,j)) for the odds o."""
    return times(lone_chance(told[i]), less(times(told[i], world.takes[i][j]), world.calls[i][j]))


def gap_at_pair(world, told, i, j):
    """Return the pair gap of two unlike places, all arguments checked."""
    return added(tie_gap(world, told, i, j), tie_gap(world, told, j, i))


def gap_at_place(world, told, j):
    """Return the place gap of the place, all arguments checked."""
    gains = [times(lone_chance(told[i]), world.takes[i][j] + world.calls[i][j]) for i in range(world.size)]
    return less(total_of(gains), times(told[j], sum(world.takes[j])))


def fits_told(world, told):
    """Tell whether a linked world is independent with these odds, which are checked."""
    if world.steady:
        return False
    for j in range(world.size):
        if gap_at_place(world, told, j) != (0, 1):
            return False
        for i in range(j):
            if gap_at_pair(world, told, i, j) != (0, 1):
                return False
    return True


def pair_gap(world, odds, i, j):
    """Return the pair gap of two unlike places."""
    ask_linked(world)
    told = odds_row(odds, world.size)
    ask_place(i, world.size)
    ask_place(j, world.size)
    if i == j:
        raise BadPlace(i)
    return gap_at_pair(world, told, i, j)


def place_gap(world, odds, j):
    """Return the place gap of the place."""
    ask_linked(world)
    told = odds_row(odds, world.size)
    ask_place(j, world.size)
    return gap_at_place(world, told, j)


def fits(world, odds):
    """Tell whether the world is independent with these odds."""
    ask_linked(world)
    return fits_told(world, odds_row(odds, world.size))


def odds_of(world):
    """Return the odds with which the world is independent, or None."""
    ask_small(world)
    if world.steady:
        return None
    # In a linked world with a calling tie each lot but () is drawn with a chance above 0.
    chances = difference_row(win_parts(world)[1])
    told = []
    for place in range(world.size):
        other = 2 if place == 0 else 1
        told.append(lowest(chances[other | (1 << place)], chances[other]))
    return tuple(told) if fits_told(world, told) else None
