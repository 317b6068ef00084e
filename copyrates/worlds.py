"""Worlds: places that copy each other by rates of takes and calls."""

from copyrates.errors import BadNumber, BadTable, OtherSize
from copyrates.kinds import ask_place, is_row, is_whole
from copyrates.masks import mask_above_zero, mask_of


def is_rate_row(row, at, size):
    """Tell whether the row can stand at this index of a table of rates."""
    if not is_row(row) or len(row) != size:
        return False
    for entry in row:
        if not is_whole(entry) or entry < 0:
            return False
    return row[at] == 0


def calls_without_take(calls, takes):
    """Tell whether a row of calls has one where the row of takes has 0."""
    for call, take in zip(calls, takes):
        if call > 0 and take == 0:
            return True
    return False


def table_copy(table):
    """Return the table as a tuple of tuples."""
    return tuple([tuple(row) for row in table])


def takes_from(takes):
    """Return the takes as a table, or raise BadTable."""
    if not is_row(takes) or not 2 <= len(takes) <= 6:
        raise BadTable(-1)
    for at, row in enumerate(takes):
        if not is_rate_row(row, at, len(takes)):
            raise BadTable(at)
    return table_copy(takes)


def calls_from(calls, takes):
    """Return the calls as a table beside a table of takes, or raise BadTable."""
    size = len(takes)
    if calls is None:
        return table_copy([[0] * size] * size)
    if not is_row(calls) or len(calls) != size:
        raise BadTable(-1)
    for at, row in enumerate(calls):
        if not is_rate_row(row, at, size) or calls_without_take(row, takes[at]):
            raise BadTable(at)
    return table_copy(calls)


def table_sum(one, other):
    """Return the sum of two tables, entry by entry."""
    return [[a + b for a, b in zip(row, beside)] for row, beside in zip(one, other)]


def table_times(table, factor):
    """Return the table with each entry times the factor."""
    return [[entry * factor for entry in row] for row in table]


def with_entry(table, pair, number):
    """Return the table with the number at the pair (i, j)."""
    rows = [list(row) for row in table]
    rows[pair[0]][pair[1]] = number
    return rows


def pairs_above_zero(table):
    """Return the pairs (i, j) with an entry above 0, ascending."""
    return tuple([(i, j) for i, row in enumerate(table) for j, entry in enumerate(row) if entry > 0])


class World:
    """A table of takes and a table of calls between `size` places; it never changes."""

    def __init__(self, takes, *, calls=None):
        self.takes = takes_from(takes)
        self.calls = calls_from(calls, self.takes)
        self.size = len(self.takes)

    @classmethod
    def steady_of(cls, takes):
        """Return the world with these takes and no calls."""
        return cls(takes)

    def rate(self, i, j):
        """Return t(i,j) + c(i,j)."""
        ask_place(i, self.size)
        ask_place(j, self.size)
        return self.takes[i][j] + self.calls[i][j]

    def ties(self):
        """Return all ties, ascending."""
        return pairs_above_zero(self.takes)

    def calling(self):
        """Return all calling ties, ascending."""
        return pairs_above_zero(self.calls)

    @property
    def total(self):
        """The sum of all takes and calls."""
        return sum([sum(row) for row in self.takes]) + sum([sum(row) for row in self.calls])

    @property
    def steady(self):
        """Whether the world has no calling tie."""
        return len(pairs_above_zero(self.calls)) == 0

    def __add__(self, other):
        if not isinstance(other, World):
            return NotImplemented
        if other.size != self.size:
            raise OtherSize(other.size)
        return World(table_sum(self.takes, other.takes), calls=table_sum(self.calls, other.calls))

    def __mul__(self, other):
        if not is_whole(other) or other < 1:
            raise BadNumber("k")
        return World(table_times(self.takes, other), calls=table_times(self.calls, other))

    def __eq__(self, other):
        return isinstance(other, World) and self.takes == other.takes and self.calls == other.calls


def web_of(world):
    """Return the world without its calls."""
    return World(world.takes)


def with_calls(world, calls):
    """Return the world with the same takes and these calls."""
    return World(world.takes, calls=calls)


def looks_of(world):
    """Return for each place the number of the lot of places that it looks at."""
    return tuple([mask_above_zero(row) for row in world.takes])


def is_closed(looks, mask):
    """Tell whether the lot with this number is closed, by what `looks_of` returns."""
    for place, seen in enumerate(looks):
        if (mask >> place) & 1 == 1 and (mask | seen) != mask:
            return False
    return mask != 0


def closed_lot(world, lot):
    """Tell whether the lot is closed."""
    return is_closed(looks_of(world), mask_of(lot, world.size))
