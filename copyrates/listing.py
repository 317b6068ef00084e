"""Texts of rows by lots and of worlds."""

from copyrates.errors import BadTable
from copyrates.kinds import ask_number, is_between
from copyrates.masks import lot_in
from copyrates.ratios import lot_row
from copyrates.worlds import World

DIGITS = "0123456789"


def lot_text(lot):
    """Return the text of a lot: its places with commas between, in braces."""
    return "{" + ",".join([str(place) for place in lot]) + "}"


def fraction_text(worth):
    """Return the text of a fraction in lowest terms."""
    top, bottom = worth
    return str(top) if bottom == 1 else f"{top}/{bottom}"


def rows_text(row):
    """Return the text of a row by lots, one line for each lot."""
    worths = [fraction_text(worth) for worth in lot_row(row)]
    lots = [lot_text(lot_in(mask)) for mask in range(len(worths))]
    wide = max([len(text) for text in lots])
    far = max([len(text) for text in worths])
    return "\n".join([lot.ljust(wide) + " " + worth.rjust(far) for lot, worth in zip(lots, worths)])


def tie_text(i, j, take, call):
    """Return the line of a tie with its rates."""
    return f"{i} <- {j}: take {take}, call {call}"


def world_text(world):
    """Return the text of a world, one line for each tie."""
    return "\n".join([tie_text(i, j, world.takes[i][j], world.calls[i][j]) for i, j in world.ties()])


def number_in(word):
    """Return the whole number that the word tells in digits, or None."""
    if len(word) == 0 or len([sign for sign in word if sign not in DIGITS]) > 0:
        return None
    return int(word)


def tie_in(line, size):
    """Return (i, j, take, call) if the line is that of a tie of a world of this size, otherwise None."""
    words = line.replace(":", "").replace(",", "").split(" ")
    if len(words) != 7:
        return None
    i, j, take, call = [number_in(words[at]) for at in (0, 2, 4, 6)]
    if i is None or j is None or take is None or call is None:
        return None
    if not is_between(i, 0, size - 1) or not is_between(j, 0, size - 1) or i == j or take == 0:
        return None
    # The line must be just the text of these numbers: all other signs are compared here.
    return (i, j, take, call) if line == tie_text(i, j, take, call) else None


def ties_in(text, size):
    """Return what each line of the text tells, or raise BadTable with the first wrong line."""
    lines = [] if len(text) == 0 else text.split("\n")
    found = []
    for at, line in enumerate(lines):
        told = tie_in(line, size)
        if told is None or (len(found) > 0 and told[:2] <= found[-1][:2]):
            raise BadTable(at)
        found.append(told)
    return found


def world_from(text, size):
    """Return the world with this text."""
    ask_number(size, "size", 2, 6)
    if not isinstance(text, str):
        raise BadTable(-1)
    takes = [[0] * size for _ in range(size)]
    calls = [[0] * size for _ in range(size)]
    for i, j, take, call in ties_in(text, size):
        takes[i][j] = take
        calls[i][j] = call
    return World(takes, calls=calls)
