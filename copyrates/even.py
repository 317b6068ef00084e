"""Even tables, and their sums of weighed rings."""

from math import lcm

from copyrates.errors import BadLot, BadTable
from copyrates.kinds import ask_number, is_row
from copyrates.masks import mask_of
from copyrates.ratios import above_zero, added, fraction_of, is_fraction, lowest, total_of


def told_row(row, at, size):
    """Return the row of a table as fractions, or None if it cannot stand at this index."""
    if not is_row(row) or len(row) != size:
        return None
    if len([entry for entry in row if not is_fraction(entry)]) > 0:
        return None
    told = tuple([fraction_of(entry, "table") for entry in row])
    if len([top for top, bottom in told if top < 0]) > 0 or told[at][0] != 0:
        return None
    return told


def table_of(table):
    """Return the table with all entries told as fractions, or raise BadTable."""
    if not is_row(table) or not 1 <= len(table) <= 6:
        raise BadTable(-1)
    rows = []
    for at, row in enumerate(table):
        told = told_row(row, at, len(table))
        if told is None:
            raise BadTable(at)
        rows.append(told)
    return tuple(rows)


def gap_of(told, place):
    """Tell whether the row and the column of the place have different sums."""
    return total_of(told[place]) != total_of([row[place] for row in told])


def uneven_lot(table):
    """Return None if the table is even, otherwise the lot of the least uneven place."""
    told = table_of(table)
    for place in range(len(told)):
        if gap_of(told, place):
            return (place,)
    return None


def is_even(table):
    """Tell whether each place's row and column have the same sum."""
    return uneven_lot(table) is None


def crossing(told, mask):
    """Return the sum of the entries from the lot with this number to outside."""
    size = len(told)
    inside = [place for place in range(size) if (mask >> place) & 1 == 1]
    outside = [place for place in range(size) if (mask >> place) & 1 == 0]
    return total_of([told[i][j] for i in inside for j in outside])


def out_of(table, lot):
    """Return the sum of the entries from inside the lot to outside."""
    told = table_of(table)
    return crossing(told, mask_of(lot, len(told)))


def into(table, lot):
    """Return the sum of the entries from outside the lot to inside."""
    told = table_of(table)
    return crossing(told, (1 << len(told)) - 1 - mask_of(lot, len(told)))


def lcm_of(told):
    """Return the least common multiple of the lower numbers of all entries."""
    common = 1
    for row in told:
        for entry in row:
            common = lcm(common, entry[1])
    return common


def whole_rows(told):
    """Return (common, rows): the entries are those of the rows of whole numbers over the least common lower number."""
    common = lcm_of(told)
    return (common, [[top * (common // bottom) for top, bottom in row] for row in told])


def ring_steps(ring):
    """Return the pairs of places that stand side by side in a ring."""
    return [(place, ring[(at + 1) % len(ring)]) for at, place in enumerate(ring)]


def ring_in(rows):
    """Return a ring along entries above 0 of an even table of whole numbers, or None."""
    for start, row in enumerate(rows):
        if max(row) > 0:
            return ring_from(rows, start)
    return None


def ring_from(rows, start):
    """Return a ring that is found on a walk from a place with an entry above 0.

    The walk never ends at a place, for an even table leads out of each place that it leads to.
    """
    walk = [start]
    while walk.count(walk[-1]) == 1:
        row = rows[walk[-1]]
        walk.append([other for other in range(len(row)) if row[other] > 0][0])
    ring = walk[walk.index(walk[-1]):-1]
    least = ring.index(min(ring))
    return tuple(ring[least:] + ring[:least])


def rings_of(table):
    """Return weighed rings whose sum is the table.

    Each ring takes at least one entry down to 0 that no later ring uses.
    Therefore the rings are independent, and there are not too many of them.
    """
    told = table_of(table)
    lot = uneven_lot(told)
    if lot is not None:
        raise BadTable(lot[0])
    common, rows = whole_rows(told)
    found = []
    ring = ring_in(rows)
    while ring is not None:
        steps = ring_steps(ring)
        weight = min([rows[i][j] for i, j in steps])
        for i, j in steps:
            rows[i][j] -= weight
        found.append((ring, lowest(weight, common)))
        ring = ring_in(rows)
    return tuple(found)


def weighed_ring(pair, size):
    """Return the ring and the weight of a pair, each checked."""
    ring, weight = pair
    mask_of(ring, size)
    if len(ring) < 2:
        raise BadLot(None)
    return (tuple(ring), above_zero(weight, "weight"))


def from_rings(size, rings):
    """Return the table that is the sum of the weighed rings."""
    ask_number(size, "size", 1, 6)
    rows = [[(0, 1) for column in range(size)] for row in range(size)]
    for pair in rings:
        ring, weight = weighed_ring(pair, size)
        for i, j in ring_steps(ring):
            rows[i][j] = added(rows[i][j], weight)
    return tuple([tuple(row) for row in rows])
