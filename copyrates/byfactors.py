"""Worlds by factors: the rates of each place are its takes times one factor."""

from copyrates.linking import ask_linked
from copyrates.naturals import strength_of
from copyrates.oddrows import factors_row
from copyrates.ratios import above_zero, added, compare, less, lowest, over, times
from copyrates.sayrows import says
from copyrates.shapes import fair_break, sides
from copyrates.wholes import exact_table, whole_world


def scaled_calls(takes, factors):
    """Return the exact calls (f_i - 1) * t(i,j), a table of fractions."""
    return [[times(less(factor, 1), take) for take in row] for factor, row in zip(factors, takes)]


def by_factors(world, factors):
    """Return the world by these factors on the web."""
    ask_linked(world)
    told = factors_row(factors, world.size)
    return whole_world(exact_table(world.takes), scaled_calls(world.takes, told))


def one_ratio(takes, calls):
    """Return 1 + c / t if it is one number at all entries of two rows with t above 0, otherwise None."""
    ratios = [lowest(take + call, take) for take, call in zip(takes, calls) if take > 0]
    if len(ratios) == 0 or ratios.count(ratios[0]) < len(ratios):
        return None
    return ratios[0]


def factors_of(world):
    """Return the factors of a world by factors, or None."""
    ask_linked(world)
    found = [one_ratio(takes, calls) for takes, calls in zip(world.takes, world.calls)]
    return None if None in found else tuple(found)


def fair_sides(world):
    """Return the two sides of a linked web that is two-sided and fair, or None."""
    return sides(world) if fair_break(world) is None else None


def side_factors(told, near, v, q):
    """Return the factors that the two numbers give by the says; `near` is the side of place 0."""
    worths = [times(q, say) for say in told]
    return tuple([
        added(v, worth) if place in near else over(added(1, worth), v) for place, worth in enumerate(worths)
    ])


def two_numbers(told, both, factors):
    """Return the two numbers from which the factors come, or None, by the says and the sides of a fair web."""
    i, j = both[0][0], both[1][0]
    # The factors f of i and j are v + q * say and (1 + q * say) / v, so f_i * f_j - 1 has q alone.
    top = less(times(factors[i], factors[j]), 1)
    q = over(top, added(told[j], times(told[i], factors[j])))
    if compare(q, 0) <= 0:
        return None
    v = less(factors[i], times(q, told[i]))
    return (v, q) if side_factors(told, both[0], v, q) == factors else None


def factor_kind(world):
    """Return of which kind an independent world by factors is, or None."""
    factors = factors_of(world)
    if factors is None:
        return None
    strength = strength_of(world)
    if strength is not None:
        return ("natural", strength)
    both = fair_sides(world)
    numbers = None if both is None else two_numbers(says(world), both, factors)
    return None if numbers is None else ("two",) + numbers + (both[0],)


def two_factors(world, v, q):
    """Return the factors from the two numbers, or None."""
    ask_linked(world)
    near_worth = above_zero(v, "v")
    strength = above_zero(q, "q")
    both = fair_sides(world)
    if both is None:
        return None
    factors = side_factors(says(world), both[0], near_worth, strength)
    return None if len([factor for factor in factors if compare(factor, 1) < 0]) > 0 else factors
