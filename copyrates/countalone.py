"""Worlds in which win depends on the number of places alone."""

from copyrates.kinds import ask_number
from copyrates.linking import ask_linked
from copyrates.pairwalks import unlike_pairs
from copyrates.ratios import from_one, lowest
from copyrates.worlds import table_sum


def number_factor(world):
    """Return the number r by which win depends on the number of places alone, or None."""
    ask_linked(world)
    takes, size = world.takes, world.size
    whole, part = world.total, sum([sum(row) for row in takes])
    rates = table_sum(takes, world.calls)
    for j in range(size):
        if part * sum([row[j] for row in rates]) != whole * sum(takes[j]):
            return None
    for i, j in unlike_pairs(list(range(size))):
        if part * (rates[i][j] + rates[j][i]) != whole * (takes[i][j] + takes[j][i]):
            return None
    return lowest(whole, part)


def power_of(base, number):
    """Return the base to the power of a whole number, 0 or more."""
    worth = 1
    for _ in range(number):
        worth = worth * base
    return worth


def counting_chance(r, number, size):
    """Return the chance to win of a start of so many of `size` places in a world with the number r."""
    top, bottom = from_one(r, "r")
    ask_number(size, "size", 2, 6)
    ask_number(number, "number", 0, size)
    if top == bottom:
        return lowest(number, size)
    # Both 1 - 1 / r^k and 1 - 1 / r^n are told over top^n.
    rest = power_of(top, size - number)
    part = (power_of(top, number) - power_of(bottom, number)) * rest
    return lowest(part, power_of(top, size) - power_of(bottom, size))
