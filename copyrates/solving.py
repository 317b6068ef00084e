"""Exact solutions of linear equations with whole numbers."""


def cleared(row, chosen, at, last):
    """Return the row with 0 at this index, by the chosen row; the division leaves no rest."""
    pivot, factor = chosen[at], row[at]
    return [(pivot * a - factor * b) // last for a, b in zip(row, chosen)]


def solved(rows):
    """Solve as many equations as unknowns.

    Each row holds the numbers that the unknowns are multiplied by, and behind
    them one right side or several. The result is a pair (bottom, tops): the
    unknown k has for the right side m the worth tops[k][m] / bottom. All
    numbers between are determinants of parts of the rows, so they stay short.

    No rows change places. Therefore the determinant of the first k rows and
    columns must not be 0 for any k. If all of them are above 0, bottom is, too.
    """
    size = len(rows)
    last = 1
    for at in range(size):
        chosen = rows[at]
        rows = [row if k == at else cleared(row, chosen, at, last) for k, row in enumerate(rows)]
        last = chosen[at]
    return (last, [row[size:] for row in rows])
