"""Whether two steady linked worlds have the same winners."""

from copyrates.errors import OtherSize
from copyrates.kinds import ask_steady
from copyrates.linking import ask_linked
from copyrates.sayrows import say_parts


def flow_gap(world, other):
    """Return None if the worlds have the same winners, otherwise the least place that tells it.

    At this place the takes of the other world, weighed by the says of this one, are not even.
    """
    if other.size != world.size:
        raise OtherSize(other.size)
    for part in (world, other):
        ask_linked(part)
        ask_steady(part)
    parts, _ = say_parts(world)
    for place in range(world.size):
        out = parts[place] * sum(other.takes[place])
        if sum([part * row[place] for part, row in zip(parts, other.takes)]) != out:
            return place
    return None


def same_winners(world, other):
    """Tell whether win is the same in both worlds for every start."""
    return flow_gap(world, other) is None
