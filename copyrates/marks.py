"""Marks: the events (i, j, word) in which a place copies another one."""

from copyrates.errors import BadMark
from copyrates.kinds import is_between, is_row


def mark_of(value, size):
    """Return the mark as a tuple, or None if the value is none."""
    if not is_row(value) or len(value) != 3:
        return None
    i, j, word = value
    if not is_between(i, 0, size - 1) or not is_between(j, 0, size - 1) or i == j:
        return None
    if not isinstance(word, str) or word not in ("take", "call"):
        return None
    return (i, j, word)


def marks_of(marks, size):
    """Return a row of marks as a tuple of tuples, or raise BadMark."""
    if not is_row(marks):
        raise BadMark(-1)
    told = []
    for at, value in enumerate(marks):
        mark = mark_of(value, size)
        if mark is None:
            raise BadMark(at)
        told.append(mark)
    return tuple(told)


def rate_of(world, mark):
    """Return the rate of a mark in the world."""
    i, j, word = mark
    return world.takes[i][j] if word == "take" else world.calls[i][j]


def own_marks(world):
    """Return the own marks of the world, the takes first."""
    return [(i, j, "take") for i, j in world.ties()] + [(i, j, "call") for i, j in world.calling()]


def weight(world, marks):
    """Return the product of the rates of the marks."""
    worth = 1
    for mark in marks_of(marks, world.size):
        worth = worth * rate_of(world, mark)
    return worth


def of_world(world, marks):
    """Tell whether all marks are own marks of the world."""
    for mark in marks_of(marks, world.size):
        if rate_of(world, mark) == 0:
            return False
    return True
