"""Ways, closed lots and heads of a world."""

from copyrates.errors import NotLinked
from copyrates.kinds import ask_at_most, ask_place
from copyrates.masks import lot_in
from copyrates.searching import least_rows
from copyrates.worlds import is_closed, looks_of


def shut_lot(world):
    """Return None if the world is linked, otherwise the closed mixed lot with the least number."""
    looks = looks_of(world)
    for number in range(1, (1 << world.size) - 1):
        if is_closed(looks, number):
            return lot_in(number)
    return None


def is_linked(world):
    """Tell whether a way leads from each place to each place."""
    return shut_lot(world) is None


def ask_linked(world):
    """Raise NotLinked with the shut lot unless the world is linked."""
    lot = shut_lot(world)
    if lot is not None:
        raise NotLinked(lot)


def ask_small(world):
    """Raise an error unless the world has at most 5 places and is linked."""
    ask_at_most(world, 5)
    ask_linked(world)


def ways_from(world, start):
    """Return a dict from each place that is reached to the places behind the start on a least way."""
    looks = [lot_in(mask) for mask in looks_of(world)]
    return least_rows([start], lambda place: [(other, other) for other in looks[place]])


def way(world, start, goal):
    """Return a way of the least number of places, or None if there is none."""
    ask_place(start, world.size)
    ask_place(goal, world.size)
    behind = ways_from(world, start).get(goal)
    return None if behind is None else (start,) + behind


def reaches(world, place):
    """Return the lot of all places to which a way from the place leads."""
    ask_place(place, world.size)
    return tuple(sorted(list(ways_from(world, place))))


def heads(world):
    """Return all heads in the order of their least places."""
    reached = [tuple(sorted(list(ways_from(world, place)))) for place in range(world.size)]
    found = []
    for lot in reached:
        # A lot of places that all reach just this lot is closed and holds no smaller closed lot.
        if len([place for place in lot if reached[place] != lot]) == 0 and lot not in found:
            found.append(lot)
    return tuple(found)
