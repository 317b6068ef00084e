"""Odds that come: whether some calls make a web independent with given odds, and which calls do."""

from copyrates.even import whole_rows
from copyrates.linking import ask_linked
from copyrates.masks import lot_in, mask_of
from copyrates.oddrows import lone_chance, odds_row
from copyrates.pairwalks import pairs_across
from copyrates.ratios import compare, lowest, times, total_of
from copyrates.searching import least_rows
from copyrates.shapes import is_two_way
from copyrates.wholes import exact_table, whole_world


def in_and_out(takes, told, mask):
    """Return (in, out) of the odds at the lot with this number."""
    inward, outward = [], []
    for i, j in pairs_across(len(takes), mask):
        weight = lone_chance(told[i]) if takes[j][i] > 0 else told[i]
        inward.append(times(told[j], takes[j][i]))
        outward.append(times(weight, takes[i][j]))
    return (total_of(inward), total_of(outward))


def needs(world, odds, lot):
    """Return the pair (in, out) of the odds at the lot."""
    ask_linked(world)
    told = odds_row(odds, world.size)
    return in_and_out(world.takes, told, mask_of(lot, world.size))


def short_lot(world, odds):
    """Return None if the odds come, otherwise a mixed lot at which in is below out."""
    ask_linked(world)
    told = odds_row(odds, world.size)
    for mask in range(1, (1 << world.size) - 1):
        inward, outward = in_and_out(world.takes, told, mask)
        if compare(inward, outward) < 0:
            return lot_in(mask)
    return None


def first_table(takes, told):
    """Return (whole, parts): parts[i][j] / whole is w_i * o_i * t(i,j), and behind them the row of what places take.

    The calls c(i,j) with w_i * c(i,j) equal to these parts have no pair gaps. Their place gaps are 0 if the
    parts in each column j sum to what place j takes: o_j times the sum of its takes, less the sum of w_i * t(i,j).
    """
    weights = [lone_chance(odd) for odd in told]
    rows = [[times(times(weight, odd), take) for take in row] for weight, odd, row in zip(weights, told, takes)]
    taken = []
    for j, row in enumerate(takes):
        gains = [times(times(weight, other[j]), -1) for weight, other in zip(weights, takes)]
        taken.append(total_of(gains + [times(told[j], sum(row))]))
    return whole_rows(rows + [taken])


def spread_moves(takes, parts, j):
    """Return the ways to move a part of what place j gets to another place, as `least_rows` takes them."""
    moves = []
    for i in range(len(takes)):
        # What (i, j) gives to j, (j, i) can give to i instead: the two have one sum.
        if parts[i][j] > 0 and takes[j][i] > 0:
            moves.append(((i, j), i))
    return moves


def spread(takes, parts, taken):
    """Change the parts till each column sums to what is taken there; tell whether this can be done.

    Each round moves as much as it can from a place with too much, on a least row of moves, to one with too little.
    """
    size = len(takes)
    while True:
        gaps = [sum([row[j] for row in parts]) - taken[j] for j in range(size)]
        rows = least_rows([j for j in range(size) if gaps[j] > 0], lambda place: spread_moves(takes, parts, place))
        short = [j for j in rows if gaps[j] < 0]
        if len(short) == 0:
            return max(gaps) == 0
        moves = rows[short[0]]
        much = min([gaps[moves[0][1]], -gaps[short[0]]] + [parts[i][j] for i, j in moves])
        for i, j in moves:
            parts[i][j] -= much
            parts[j][i] += much


def calls_told(takes, told):
    """Return a table of calls that make the web independent with these odds, or None; all arguments are checked."""
    whole, rows = first_table(takes, told)
    parts, taken = rows[:-1], rows[-1]
    if not spread(takes, parts, taken):
        return None
    return tuple([
        tuple([lowest(part * (top + bottom), whole * top) for part in row]) for (top, bottom), row in zip(told, parts)
    ])


def calls_for(world, odds):
    """Return calls that make the web independent with these odds, a table of fractions, or None."""
    ask_linked(world)
    return calls_told(world.takes, odds_row(odds, world.size))


def world_for(world, odds):
    """Return the world with the calls that calls_for returns, made whole, or None."""
    calls = calls_for(world, odds)
    return None if calls is None else whole_world(exact_table(world.takes), calls)


def least_counting(world):
    """Return the least counting number of a two-way web with a mixed lot whose quotient it is, or None."""
    ask_linked(world)
    if not is_two_way(world):
        return None
    takes, best = world.takes, None
    for mask in range(1, (1 << world.size) - 1):
        across = pairs_across(world.size, mask)
        quotient = lowest(sum([takes[i][j] for i, j in across]), sum([takes[j][i] for i, j in across]))
        if best is None or compare(quotient, best[0]) > 0:
            best = (quotient, lot_in(mask))
    return best
