"""The natural rules between which win lies, and the borders of odds."""

from copyrates.linking import ask_linked
from copyrates.masks import mask_of
from copyrates.naturals import call_ratios, natural_rule
from copyrates.oddrows import lone_chance, odds_row
from copyrates.pairwalks import pairs_across
from copyrates.ratios import greatest_of, least_of, less, times, total_of
from copyrates.sayrows import said


def strengths(world):
    """Return the lower and the upper strength."""
    ask_linked(world)
    ratios = call_ratios(world)
    return (least_of(ratios), greatest_of(ratios))


def natural_chance(world, strength, lot):
    """Return the natural rule of the strength, which may be 0, at the lot."""
    if strength == (0, 1):
        return said(world, lot)
    rule = natural_rule(world, strength)
    return rule(lot)


def between(world, lot):
    """Return the natural rules of the lower and of the upper strength at the lot."""
    lower, upper = strengths(world)
    return (natural_chance(world, lower, lot), natural_chance(world, upper, lot))


def border_at(world, told, mask):
    """Return the border of odds, which are checked, at the lot with this number."""
    steps = []
    for j, i in pairs_across(world.size, mask):
        rate = world.takes[i][j] + world.calls[i][j]
        steps.append(less(times(lone_chance(told[i]), rate), times(told[j], world.takes[j][i])))
    return total_of(steps)


def border(world, odds, lot):
    """Return the border of the odds at the lot."""
    ask_linked(world)
    told = odds_row(odds, world.size)
    return border_at(world, told, mask_of(lot, world.size))
