"""Jury steps backwards: the turned web, the turned world, and what keeps a world from having one."""

from copyrates.differences import difference_row
from copyrates.linking import ask_linked, ask_small
from copyrates.naturals import natural, strength_of
from copyrates.ratios import lowest
from copyrates.sayrows import say_parts
from copyrates.wholes import whole_web
from copyrates.wins import win_parts


def turned_web(world):
    """Return the turned web."""
    ask_linked(world)
    parts, _ = say_parts(world)
    places = range(world.size)
    return whole_web([[lowest(parts[j] * world.takes[j][i], parts[i]) for j in places] for i in places])


def turned(world):
    """Return the turned world of a natural world, or None."""
    strength = strength_of(world)
    return None if strength is None else natural(turned_web(world), strength)


def third_place(chances, size, i, j):
    """Return the least third place that keeps the tie (i, j) from being turned in pairs, or None."""
    for k in range(size):
        one, other = chances[(1 << i) | (1 << k)], chances[(1 << j) | (1 << k)]
        if k not in (i, j) and one * chances[1 << j] != other * chances[1 << i]:
            return k
    return None


def backwards_gap(world):
    """Return None if the world is natural or steady, otherwise what keeps its steps from being turned."""
    ask_small(world)
    chances = difference_row(win_parts(world)[1])
    for i, j in world.ties():
        k = third_place(chances, world.size, i, j)
        if k is not None:
            return ("pair", (i, j), k)
    for i, j in world.ties():
        if world.calls[i][j] * chances[1 << j] != world.takes[i][j] * chances[(1 << i) | (1 << j)]:
            return ("call", (i, j))
    return None
