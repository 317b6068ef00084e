"""What changed calls are worth: how long a run is at each state, and what each tie adds there."""

from copyrates.chains import chain_rows
from copyrates.errors import BadLot, BadTie, OtherSize
from copyrates.kinds import tie_of
from copyrates.linking import ask_small
from copyrates.masks import mask_of
from copyrates.pairwalks import unlike_pairs
from copyrates.ratios import compare, less, lowest
from copyrates.solving import solved
from copyrates.wins import start_rates, win, win_parts
from copyrates.worlds import table_sum


def ask_same_takes(world, other):
    """Raise an error unless both worlds have one size and the same takes."""
    if other.size != world.size:
        raise OtherSize(other.size)
    for i, j in unlike_pairs(list(range(world.size))):
        if world.takes[i][j] != other.takes[i][j]:
            raise BadTie((i, j))


def gain(world, other, lot):
    """Return win of the lot in the other world less that in this one; both have the same takes."""
    ask_same_takes(world, other)
    ask_small(world)
    return less(win(other, lot), win(world, lot))


def visit_parts(world, mask):
    """Return (whole, parts): the run from the lot with this number has W * parts[k] / whole state visits at the lot k.

    All lots are told by their numbers. The parts at () and E are 0.
    """
    mixed = list(range(1, (1 << world.size) - 1))
    ups, places = table_sum(world.takes, world.calls), tuple(range(world.size))
    rows = chain_rows(mixed, lambda state: start_rates(ups, world.takes, places, state))
    # What the states get from one another is told by the columns.
    columns = [[row[at] for row in rows] + [1 if state == mask else 0] for at, state in enumerate(mixed)]
    whole, tops = solved(columns)
    return (whole, [0] + [row[0] for row in tops] + [0])


def visits_of(world, lot):
    """Return the state visits of the run from the lot, a row by lots."""
    ask_small(world)
    whole, parts = visit_parts(world, mask_of(lot, world.size))
    total = world.total
    return tuple([lowest(total * part, whole) for part in parts])


def tie_worths(world, mask):
    """Return a dict from each tie to its worth for the lot with this number."""
    whole, parts = visit_parts(world, mask)
    win_whole, wins = win_parts(world)
    worths = {}
    for i, j in world.ties():
        # The states in which the tie changes something have j inside and i outside.
        states = [state for state in range(len(parts)) if (state >> j) & 1 > (state >> i) & 1]
        total = sum([parts[state] * (wins[state | (1 << i)] - wins[state]) for state in states])
        worths[(i, j)] = lowest(total, whole * win_whole)
    return worths


def tie_worth(world, tie, lot):
    """Return the worth of the tie for the lot."""
    ask_small(world)
    pair = tie_of(world, tie)
    return tie_worths(world, mask_of(lot, world.size))[pair]


def best_tie(world, lot):
    """Return the tie with the greatest worth for the lot, the least one of several, and its worth."""
    ask_small(world)
    mask = mask_of(lot, world.size)
    if mask in (0, (1 << world.size) - 1):
        raise BadLot(None)
    best = None
    for tie, worth in tie_worths(world, mask).items():
        if best is None or compare(worth, best[1]) > 0:
            best = (tie, worth)
    return best
