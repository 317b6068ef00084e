"""Natural worlds: the calls are the strength times the flow."""

from copyrates.linking import ask_linked
from copyrates.ratios import above_zero, lowest, times
from copyrates.rules import NaturalRule
from copyrates.sayrows import flow, say_parts, says
from copyrates.wholes import exact_table, whole_world


def natural(world, strength):
    """Return the natural world of this strength on the web."""
    ask_linked(world)
    worth = above_zero(strength, "strength")
    calls = [[times(worth, entry) for entry in row] for row in flow(world)]
    return whole_world(exact_table(world.takes), calls)


def call_ratios(world):
    """Return c(i,j) / e(i,j) for all ties of a linked world, ascending by the ties."""
    parts, whole = say_parts(world)
    return [lowest(world.calls[i][j] * whole, parts[i] * world.takes[i][j]) for i, j in world.ties()]


def strength_of(world):
    """Return the strength of a natural world, or None if the world is not natural."""
    ask_linked(world)
    ratios = call_ratios(world)
    if ratios[0] == (0, 1) or ratios.count(ratios[0]) < len(ratios):
        return None
    return ratios[0]


def natural_rule(world, strength):
    """Return the rule of the natural world of this strength on the web."""
    return NaturalRule(says(world), strength)
