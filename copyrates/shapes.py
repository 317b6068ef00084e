"""Shapes of webs: two-way and two-sided worlds, lines and fair webs."""

from copyrates.even import ring_steps
from copyrates.linking import ask_linked
from copyrates.masks import lot_in
from copyrates.searching import least_rows
from copyrates.worlds import looks_of


def one_way_tie(world):
    """Return the least tie whose turned pair is not a tie, or None."""
    for i, j in world.ties():
        if world.takes[j][i] == 0:
            return (i, j)
    return None


def is_two_way(world):
    """Tell whether the turned pair of each tie is a tie."""
    return one_way_tie(world) is None


def odd_walk(world):
    """Return a closed walk of odd length from place 0 in a linked world, or None."""
    looks = [lot_in(mask) for mask in looks_of(world)]
    # A state is a place and whether it is reached by an odd number of ties.
    rows = least_rows([(0, 0)], lambda state: [(other, (other, 1 - state[1])) for other in looks[state[0]]])
    return rows.get((0, 1))


def odd_ring(world):
    """Return None if the world is two-sided, otherwise a closed walk of odd length."""
    ask_linked(world)
    return odd_walk(world)


def sides(world):
    """Return the two sides, the one with place 0 first, or None."""
    ask_linked(world)
    if odd_walk(world) is not None:
        return None
    looks = looks_of(world)
    near, far = 1, 0
    for _ in range(world.size):
        for place, seen in enumerate(looks):
            if (near >> place) & 1 == 1:
                far = far | seen
            if (far >> place) & 1 == 1:
                near = near | seen
    return (lot_in(near), lot_in(far))


def long_rings(world):
    """Return all rings of three or more places, each beginning with its least place."""
    looks = looks_of(world)
    found = []
    for least in range(world.size):
        rows = [(least,)]
        while len(rows) > 0:
            found.extend([row for row in rows if len(row) > 2 and (looks[row[-1]] >> least) & 1 == 1])
            rows = [
                row + (place,) for row in rows for place in range(least + 1, world.size)
                if place not in row and (looks[row[-1]] >> place) & 1 == 1
            ]
    return tuple(found)


def crowded_place(world):
    """Return the least place that looks at three or more, or None."""
    for place, seen in enumerate(looks_of(world)):
        if len(lot_in(seen)) > 2:
            return place
    return None


def line_break(world):
    """Return what keeps a linked world from being a line, or None."""
    tie = one_way_tie(world)
    if tie is not None:
        return ("one-way", tie)
    rings = long_rings(world)
    if len(rings) > 0:
        return ("ring", rings[0])
    place = crowded_place(world)
    return None if place is None else ("place", place)


def branch(world):
    """Return None if the world is a line, otherwise what keeps it from being one."""
    ask_linked(world)
    return line_break(world)


def line(world):
    """Return the places of a line in its order, or None."""
    ask_linked(world)
    if line_break(world) is not None:
        return None
    looks = [lot_in(mask) for mask in looks_of(world)]
    order = [[place for place in range(world.size) if len(looks[place]) == 1][0]]
    while len(order) < world.size:
        ahead = [place for place in looks[order[-1]] if place not in order]
        order.append(ahead[0])
    return tuple(order)


def product_along(world, steps):
    """Return the product of the takes at the ties."""
    worth = 1
    for i, j in steps:
        worth = worth * world.takes[i][j]
    return worth


def fair_break(world):
    """Return None if the world is fair, otherwise a one-way tie or an unfair ring."""
    ask_linked(world)
    tie = one_way_tie(world)
    if tie is not None:
        return tie
    for ring in long_rings(world):
        steps = ring_steps(ring)
        if product_along(world, steps) != product_along(world, [(j, i) for i, j in steps]):
            return ring
    return None
