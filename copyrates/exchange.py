"""Pairs of walks: which pairs of places can change into which by own takes."""

from copyrates.errors import BadPlace
from copyrates.kinds import ask_place, is_row
from copyrates.linking import ask_linked
from copyrates.masks import lot_in
from copyrates.searching import least_rows
from copyrates.worlds import looks_of


def pair_of(value, size):
    """Return the pair of two unlike places as a tuple, or raise BadPlace."""
    if not is_row(value) or len(value) != 2:
        raise BadPlace(None)
    ask_place(value[0], size)
    ask_place(value[1], size)
    if value[0] == value[1]:
        raise BadPlace(value[1])
    return (value[0], value[1])


def pair_moves(looks, pair):
    """Return the takes that move one of the two walks to a third place, with the pairs they lead to."""
    one, other = pair
    moves = [((one, place, "take"), (place, other)) for place in looks[one] if place != other]
    return moves + [((other, place, "take"), (one, place)) for place in looks[other] if place != one]


def rows_from(world, pair):
    """Return a dict from each pair that the walks can come to, to a least row of moves."""
    looks = [lot_in(mask) for mask in looks_of(world)]
    return least_rows([pair], lambda state: pair_moves(looks, state))


def walk_row(world, pair, goal):
    """Return a shortest row of own takes that brings the walks from pair to goal, or None."""
    ask_linked(world)
    first = pair_of(pair, world.size)
    last = pair_of(goal, world.size)
    moves = rows_from(world, first).get(last)
    # A run does the marks in the opposite order of the walks' moves.
    return None if moves is None else moves[::-1]


def pairs_from(world, pair):
    """Return all pairs of unlike places that the walks can come to, ascending."""
    ask_linked(world)
    return tuple(sorted(list(rows_from(world, pair_of(pair, world.size)))))
