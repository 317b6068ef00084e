"""Trials: deeds on a desk that is put back at the end, and the mean over one step."""

from copyrates.doing import after_mark, grades_of
from copyrates.errors import BadNumber
from copyrates.kinds import ask_whole, is_row
from copyrates.marks import own_marks, rate_of
from copyrates.masks import high_mask
from copyrates.ratios import lowest
from copyrates.sayrows import says
from copyrates.wins import win_parts, win_row

# The entries of a deed, its word and what the word asks for.
LENGTHS = {"mark": 4, "take": 3, "call": 3, "hold": 2, "free": 2, "grades": 2}


class Trial:
    """Deeds on a desk within a block; at its end the desk is as it was at its beginning."""

    def __init__(self, desk):
        self.desk = desk
        self._settings = ()
        self._deeds = ()

    def __enter__(self):
        self._settings = self.desk._settings
        self._deeds = self.desk._deeds
        return self

    def __exit__(self, kind, value, trace):
        desk = self.desk
        desk._settings = self._settings
        desk._deeds = self._deeds


def is_deed(value):
    """Tell whether the value has the word and the length of a deed."""
    if not is_row(value) or len(value) == 0 or not isinstance(value[0], str):
        return False
    return LENGTHS.get(value[0], 0) == len(value)


def do_deed(desk, deed):
    """Do a deed on the desk."""
    if not is_deed(deed):
        raise BadNumber("deed")
    word = deed[0]
    if word == "mark":
        desk.mark(deed[1], deed[2], deed[3])
    elif word == "take":
        desk.set_take(deed[1], deed[2])
    elif word == "call":
        desk.set_call(deed[1], deed[2])
    elif word == "hold":
        desk.hold(deed[1])
    elif word == "free":
        desk.free(deed[1])
    else:
        desk.set_grades(deed[1])


def answer_to(desk, question):
    """Return the answer of the desk to a question, or raise BadNumber("question")."""
    if question == "last":
        return desk.last()
    if question == "says":
        return says(desk.now)
    if question == "win":
        return win_row(desk.now)
    if question == "grades":
        return desk.grades
    if question == "run":
        return desk.run.table
    raise BadNumber("question")


def tried(desk, deeds, question):
    """Return the answer to the question behind the deeds, which are taken back."""
    if not is_row(deeds):
        raise BadNumber("deed")
    with Trial(desk) as trial:
        for deed in deeds:
            do_deed(trial.desk, deed)
        return answer_to(trial.desk, question)


def step_mean(world, grades, grade):
    """Return the mean over one step of the chance that the last grade is this grade or more."""
    whole, parts = win_parts(world)
    told = grades_of(grades, world.size)
    ask_whole(grade, "grade")
    total = sum([
        rate_of(world, mark) * parts[high_mask(after_mark(told, mark), grade)] for mark in own_marks(world)
    ])
    return lowest(total, whole * world.total)
