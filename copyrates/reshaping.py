"""Webs made from webs: without a place, glued, slowed, from a flow, from a ring."""

from copyrates.errors import BadTable, TooMany
from copyrates.even import from_rings, table_of, uneven_lot
from copyrates.kinds import ask_place, ask_steady
from copyrates.linking import ask_linked
from copyrates.oddrows import odds_row, says_row
from copyrates.ratios import above_zero, lowest, over, times
from copyrates.wholes import whole_web
from copyrates.worlds import World


def left_out(world, place):
    """Return the web without the place, whose takes go to where it takes from."""
    if world.size < 3:
        raise TooMany(world.size)
    ask_linked(world)
    ask_steady(world)
    ask_place(place, world.size)
    gone = world.takes[place]
    out = sum(gone)
    kept = [row for at, row in enumerate(world.takes) if at != place]
    rows = [[lowest(take * out + row[place] * past, out) for take, past in zip(row, gone)] for row in kept]
    rows = [row[:place] + row[place + 1:] for row in rows]
    # What a place would take from itself by the place that is left out is no tie.
    return whole_web([row[:at] + [(0, 1)] + row[at + 1:] for at, row in enumerate(rows)])


def glued(world, other, place, other_place):
    """Return the web of both worlds in which the two places are one place."""
    number = world.size + other.size - 1
    if number > 6:
        raise TooMany(number)
    for part in (world, other):
        ask_linked(part)
        ask_steady(part)
    ask_place(place, world.size)
    ask_place(other_place, other.size)
    further = [at for at in range(other.size) if at != other_place]
    spots = {at: world.size + k for k, at in enumerate(further)}
    spots[other_place] = place
    rows = [[0] * number for _ in range(number)]
    for i, j in world.ties():
        rows[i][j] = world.takes[i][j]
    for i, j in other.ties():
        rows[spots[i]][spots[j]] = other.takes[i][j]
    return World(rows)


def slowed(world, factors):
    """Return the web in which all takes of each place are multiplied by its factor."""
    ask_linked(world)
    ask_steady(world)
    told = odds_row(factors, world.size)
    return whole_web([[times(factor, take) for take in row] for factor, row in zip(told, world.takes)])


def flow_rows(table):
    """Return an even table of two places or more as fractions, or raise BadTable."""
    try:
        told = table_of(table)
    except BadTable:
        raise BadTable(-1) from None
    if len(told) < 2:
        raise BadTable(-1)
    lot = uneven_lot(told)
    if lot is not None:
        raise BadTable(lot[0])
    return told


def from_flow(table, row):
    """Return the web whose flow is the table and whose says are the row."""
    told = flow_rows(table)
    worths = says_row(row, len(told))
    web = whole_web([[over(entry, worth) for entry in entries] for worth, entries in zip(worths, told)])
    ask_linked(web)
    return web


def ring_web(size, ring, row, weight):
    """Return the exact takes of the ring web, a table of fractions."""
    steps = from_rings(size, [(ring, 1)])
    worths = says_row(row, size)
    told = above_zero(weight, "weight")
    return tuple([tuple([times(step, over(told, worth)) for step in line]) for worth, line in zip(worths, steps)])
