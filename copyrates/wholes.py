"""Worlds made whole: exact rates, times the least number that makes all of them whole."""

from copyrates.even import whole_rows
from copyrates.worlds import World


def exact_table(table):
    """Return a table of whole numbers as a table of fractions."""
    return [[(entry, 1) for entry in row] for row in table]


def whole_world(takes, calls):
    """Return the world with these exact takes and calls, two tables of fractions, made whole."""
    rows = whole_rows(list(takes) + list(calls))[1]
    return World(rows[:len(takes)], calls=rows[len(takes):])


def whole_web(takes):
    """Return the web with these exact takes, a table of fractions, made whole."""
    return World(whole_rows(takes)[1])
