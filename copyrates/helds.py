"""Held worlds: stubborn places that never change, and free ones that lead to them."""

from copyrates.errors import BadLot, NotHeld
from copyrates.kinds import ask_at_most
from copyrates.linking import heads
from copyrates.masks import lot_in, mask_of
from copyrates.worlds import World, looks_of


def held_fault(world):
    """Return None if the world is held, otherwise the lot that NotHeld tells."""
    found = heads(world)
    for head in found:
        if len(head) > 1:
            return head
    return () if len(found) == world.size else None


def is_held(world):
    """Tell whether each head is one place and some place is in no head."""
    return held_fault(world) is None


def ask_held(world):
    """Raise an error unless the world is held and has at most 5 places."""
    ask_at_most(world, 5)
    lot = held_fault(world)
    if lot is not None:
        raise NotHeld(lot)


def stubborn_mask(world):
    """Return the number of the lot of the stubborn places of a held world: they look at nobody."""
    mask = 0
    for place, seen in enumerate(looks_of(world)):
        if seen == 0:
            mask = mask | (1 << place)
    return mask


def free_mask(world):
    """Return the number of the lot of the free places of a held world."""
    return (1 << world.size) - 1 - stubborn_mask(world)


def holder_mask(world, holders):
    """Return the number of the lot of the holders, checked, in a held world."""
    mask = mask_of(holders, world.size)
    wrong = lot_in(mask & free_mask(world))
    if len(wrong) > 0:
        raise BadLot(wrong[0])
    return mask


def stubborn_places(world):
    """Return the lot of the stubborn places."""
    ask_held(world)
    return lot_in(stubborn_mask(world))


def free_places(world):
    """Return the lot of the free places."""
    ask_held(world)
    return lot_in(free_mask(world))


def laid_aside(table, mask):
    """Return the table with 0 in all rows of the lot with this number."""
    return [[0] * len(row) if (mask >> at) & 1 == 1 else row for at, row in enumerate(table)]


def held_world(world, lot):
    """Return the world with all takes and calls of the places of the lot set to 0."""
    mask = mask_of(lot, world.size)
    return World(laid_aside(world.takes, mask), calls=laid_aside(world.calls, mask))


def grouped(table, groups, rest):
    """Return the table between groups of places: only the places of the rest, the last groups, look at others."""
    many = len(groups)
    rows = [[0] * many for _ in range(many - len(rest))]
    return rows + [[sum([table[place][at] for at in group]) for group in groups] for place in rest]


def headed(world):
    """Return the world with one place for each head and for each place in no head, the heads, and those places."""
    found = heads(world)
    inside = [place for head in found for place in head]
    rest = tuple([place for place in range(world.size) if place not in inside])
    if len(rest) == 0:
        raise NotHeld(())
    groups = list(found) + [(place,) for place in rest]
    made = World(grouped(world.takes, groups, rest), calls=grouped(world.calls, groups, rest))
    return (made, found, rest)
