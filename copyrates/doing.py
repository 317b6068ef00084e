"""Marks done to rows of grades."""

from copyrates.errors import BadGrades
from copyrates.kinds import is_row, is_whole
from copyrates.marks import marks_of


def grades_of(value, size):
    """Return the grades as a tuple, or raise BadGrades."""
    if not is_row(value) or len(value) != size:
        raise BadGrades(-1)
    for at, entry in enumerate(value):
        if not is_whole(entry):
            raise BadGrades(at)
    return tuple(value)


def world_grades(value):
    """Return grades of as many places as a world can have, or raise BadGrades."""
    if not is_row(value) or not 2 <= len(value) <= 6:
        raise BadGrades(-1)
    return grades_of(value, len(value))


def after_mark(grades, mark):
    """Return the grades after the mark."""
    i, j, word = mark
    copied = grades[j] if word == "take" else max(grades[i], grades[j])
    return grades[:i] + (copied,) + grades[i + 1:]


def states(grades, marks):
    """Yield the grades ahead of the first mark, then those after each mark."""
    now = world_grades(grades)
    told = marks_of(marks, len(now))
    yield now
    for mark in told:
        now = after_mark(now, mark)
        yield now


def end_grades(grades, marks):
    """Return the grades after all marks."""
    now = world_grades(grades)
    for mark in marks_of(marks, len(now)):
        now = after_mark(now, mark)
    return now


def effective(grades, marks):
    """Tell for each mark whether it changed the grades that it was done to."""
    rows = list(states(grades, marks))
    return tuple([rows[at] != rows[at + 1] for at in range(len(rows) - 1)])
