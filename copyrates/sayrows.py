"""The says of a linked world, its flow, and what they tell of grades."""

from copyrates.doing import grades_of
from copyrates.kinds import ask_steady
from copyrates.linking import ask_linked
from copyrates.masks import lot_in, mask_of
from copyrates.ratios import lowest
from copyrates.solving import solved


def say_parts(world):
    """Return (parts, whole) for a linked world: the say of place i is parts[i] / whole, both above 0."""
    size = world.size
    rows = []
    for j in range(size - 1):
        row = [-world.takes[i][j] for i in range(size)]
        row[j] = sum(world.takes[j])
        rows.append(row + [0])
    # The balance at the last place follows from the others; that the says sum to 1 stands for it.
    # All determinants that `solved` goes through are sums over trees or forests, so they are above 0.
    rows.append([1] * (size + 1))
    whole, tops = solved(rows)
    return ([row[0] for row in tops], whole)


def says(world):
    """Return the says of all places."""
    ask_linked(world)
    parts, whole = say_parts(world)
    return tuple([lowest(part, whole) for part in parts])


def flow(world):
    """Return the table of the flow."""
    ask_linked(world)
    parts, whole = say_parts(world)
    return tuple([tuple([lowest(part * take, whole) for take in row]) for part, row in zip(parts, world.takes)])


def said(world, lot):
    """Return the sum of the says of the lot."""
    ask_linked(world)
    places = lot_in(mask_of(lot, world.size))
    parts, whole = say_parts(world)
    return lowest(sum([parts[place] for place in places]), whole)


def squares(world, lot):
    """Return the sum of the squares of the says of the lot."""
    ask_linked(world)
    places = lot_in(mask_of(lot, world.size))
    parts, whole = say_parts(world)
    return lowest(sum([parts[place] * parts[place] for place in places]), whole * whole)


def lasts(world, grades):
    """Return each grade of the row with the chance that it is the last grade, grades ascending."""
    ask_linked(world)
    ask_steady(world)
    told = grades_of(grades, world.size)
    parts, whole = say_parts(world)
    found = []
    for grade in sorted(set(told)):
        worth = sum([part for part, own in zip(parts, told) if own == grade])
        found.append((grade, lowest(worth, whole)))
    return tuple(found)


def mean_says(world, grades):
    """Return the sum of each say times the grade of its place."""
    ask_linked(world)
    told = grades_of(grades, world.size)
    parts, whole = say_parts(world)
    return lowest(sum([part * own for part, own in zip(parts, told)]), whole)
