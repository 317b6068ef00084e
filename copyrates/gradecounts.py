"""Grade counts: how many places of each block have the grades 0, 1 and 2, and whether they run by themselves."""

from copyrates.blockruns import check_blocks
from copyrates.errors import BadGrades, BadNumber
from copyrates.kinds import ask_number, is_between, is_row

CHANGES = ((0, 1), (0, 2), (1, 0), (1, 2), (2, 0), (2, 1))


def few_grades(value, size):
    """Return a row of `size` grades 0, 1 and 2 as a tuple, or raise BadGrades."""
    if not is_row(value) or len(value) != size:
        raise BadGrades(-1)
    for at, entry in enumerate(value):
        if not is_between(entry, 0, 2):
            raise BadGrades(at)
    return tuple(value)


def change_rate(world, block, row, change):
    """Return the rate at which places of the block go from one grade to another one; `change` has these two."""
    was, becomes = change
    goers = [i for i in block if row[i] == was]
    models = [j for j, own in enumerate(row) if own == becomes]
    rate = sum([world.takes[i][j] for i in goers for j in models])
    return rate + sum([world.calls[i][j] for i in goers for j in models]) if becomes > was else rate


def grade_rate(world, blocks, row, number, g, h):
    """Return the rate at which places of the block with this index go from grade g to grade h."""
    told = check_blocks(blocks, world.size)
    grades = few_grades(row, world.size)
    ask_number(number, "number", 0, len(told) - 1)
    ask_number(g, "g", 0, 2)
    if not is_between(h, 0, 2) or h == g:
        raise BadNumber("h")
    return change_rate(world, told[number], grades, (g, h))


def rows_of_grades(size):
    """Return all rows of `size` grades 0, 1 and 2."""
    rows = [()]
    for _ in range(size):
        rows = [row + (grade,) for row in rows for grade in range(3)]
    return rows


def grade_counts(told, row):
    """Return for each block the numbers of its places with the grades 0, 1 and 2."""
    own = [[row[place] for place in block] for block in told]
    return tuple([(grades.count(0), grades.count(1), grades.count(2)) for grades in own])


def unlike_change(world, told, row, other):
    """Return (number, g, h) for the first block and change whose rates differ at two rows of grades, or None."""
    for number, block in enumerate(told):
        for change in CHANGES:
            if change_rate(world, block, row, change) != change_rate(world, block, other, change):
                return (number,) + change
    return None


def uneven_rows(world, blocks):
    """Return None if the grade counts run by themselves, otherwise two rows at which they do not, and where."""
    told = check_blocks(blocks, world.size)
    first = {}
    for row in rows_of_grades(world.size):
        other = first.setdefault(grade_counts(told, row), row)
        found = unlike_change(world, told, other, row)
        if found is not None:
            return (other, row) + found
    return None


def grades_alone(world, blocks):
    """Tell whether the grade counts run by themselves."""
    return uneven_rows(world, blocks) is None
