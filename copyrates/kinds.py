"""What kind a value is, and the checks of plain arguments."""

from copyrates.errors import BadNumber, BadPlace, BadTie, HasCalls, TooMany


def is_whole(value):
    """Tell whether the value is a whole number; True and False are none."""
    return isinstance(value, int) and not isinstance(value, bool)


def is_between(value, low, high):
    """Tell whether the value is a whole number from low to high."""
    return is_whole(value) and low <= value <= high


def is_row(value):
    """Tell whether the value is a tuple or list."""
    return isinstance(value, (tuple, list))


def ask_number(value, name, low, high):
    """Raise BadNumber(name) unless the value is a whole number from low to high."""
    if not is_between(value, low, high):
        raise BadNumber(name)


def ask_whole(value, name):
    """Raise BadNumber(name) unless the value is a whole number."""
    if not is_whole(value):
        raise BadNumber(name)


def ask_from(value, name, low):
    """Raise BadNumber(name) unless the value is a whole number, `low` or more."""
    if not is_whole(value) or value < low:
        raise BadNumber(name)


def ask_place(value, size):
    """Raise BadPlace(value) unless the value is a place below size."""
    if not is_between(value, 0, size - 1):
        raise BadPlace(value)


def tie_places(value, size):
    """Return the value as a pair of unlike places, a tuple, or raise BadTie(value)."""
    if not is_row(value) or len(value) != 2:
        raise BadTie(value)
    i, j = value
    if not is_between(i, 0, size - 1) or not is_between(j, 0, size - 1) or i == j:
        raise BadTie(value)
    return (i, j)


def tie_of(world, value):
    """Return the value as a tie of the world, a tuple, or raise BadTie(value)."""
    i, j = tie_places(value, world.size)
    if world.takes[i][j] == 0:
        raise BadTie(value)
    return (i, j)


def ask_at_most(world, most):
    """Raise TooMany if the world has more than `most` places."""
    if world.size > most:
        raise TooMany(world.size)


def ask_steady(world):
    """Raise HasCalls with the least calling tie unless the world is steady."""
    calling = world.calling()
    if len(calling) > 0:
        raise HasCalls(calling[0])
