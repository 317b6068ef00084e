"""Point 16: marks done to grades."""

import random
import unittest

from copyrates.doing import effective, end_grades, grades_of, states
from tests.kit import NO_WHOLE, Checks, do, some_marks

FAR = 10 ** 12


def some_grades(size, many, seed):
    draw = random.Random(seed)
    for _ in range(many):
        top = draw.choice((1, 3, FAR))
        yield tuple(draw.randrange(-top, top + 1) for _ in range(size))


def cases():
    for size in (2, 3, 4, 6):
        for k, grades in enumerate(some_grades(size, 12, size)):
            yield grades, some_marks(size, (0, 1, 2, 5, 30, 400)[k % 6], 10 * size + k)


class GradesOf(Checks):
    def test_rows(self):
        for size in (1, 2, 6):
            for grades in some_grades(size, 10, size):
                self.same(grades_of(grades, size), grades)
                self.same(grades_of(list(grades), size), grades)
        self.same(grades_of([-FAR, 0, FAR], 3), (-FAR, 0, FAR))

    def test_refused(self):
        for value in (None, 4, "abc", True, {0: 1, 1: 2, 2: 3}, (), [1, 2], (1, 2, 3, 4)):
            self.refused("BadGrades", -1, grades_of, value, 3)
        for entry in NO_WHOLE:
            self.refused("BadGrades", 0, grades_of, [entry, None, 3], 3)
            self.refused("BadGrades", 2, grades_of, (0, -1, entry), 3)


class Doing(Checks):
    def test_one_mark(self):
        self.same(end_grades((1, 5), [(0, 1, "take")]), (5, 5))
        self.same(end_grades((5, 1), [(0, 1, "take")]), (1, 1))
        self.same(end_grades((1, 5), [(0, 1, "call")]), (5, 5))
        self.same(end_grades((5, 1), [(0, 1, "call")]), (5, 1))
        self.same(end_grades((-5, -1), [(1, 0, "call")]), (-5, -1))
        self.same(end_grades((-5, -1, 0), [(1, 0, "take")]), (-5, -5, 0))

    def test_states(self):
        for grades, marks in cases():
            wanted = [do(grades, marks[:k]) for k in range(len(marks) + 1)]
            self.same(list(states(list(grades), marks)), wanted)
            self.same(end_grades(grades, [list(mark) for mark in marks]), wanted[-1])
            self.same(effective(grades, tuple(marks)), tuple(a != b for a, b in zip(wanted, wanted[1:])))

    def test_no_marks(self):
        for size in (2, 6):
            grades = list(range(size))
            self.same(list(states(grades, [])), [tuple(grades)])
            self.same(end_grades(grades, ()), tuple(grades))
            self.same(effective(grades, ()), ())

    def test_equal_grades_stay(self):
        for size in (2, 3, 6):
            marks = some_marks(size, 60, size)
            for grade in (-FAR, 0, 1, FAR):
                self.same(effective([grade] * size, marks), (False,) * 60)
                self.same(end_grades([grade] * size, marks), (grade,) * size)

    def test_effective_calls(self):
        for grades in some_grades(3, 40, 8):
            for i in range(3):
                for j in range(3):
                    if i != j:
                        self.same(effective(grades, [(i, j, "call")]), (grades[j] > grades[i],))
                        self.same(effective(grades, [(i, j, "take")]), (grades[j] != grades[i],))

    def test_states_is_a_generator(self):
        made = states([1, 2], [(0, 1, "take")])
        self.assertIs(iter(made), made)
        self.same(next(made), (1, 2))
        self.same(next(made), (2, 2))
        self.same(next(made, None), None)

    def test_arguments_stay(self):
        grades, marks = [3, 1], [[0, 1, "take"], (1, 0, "call")]
        for call in (end_grades, effective, lambda g, m: list(states(g, m)), lambda g, m: grades_of(g, 2)):
            call(grades, marks)
            self.assertEqual((grades, marks), ([3, 1], [[0, 1, "take"], (1, 0, "call")]))


class Refused(Checks):
    calls = (end_grades, effective, lambda g, m: next(states(g, m)))

    def test_grades(self):
        for call in self.calls:
            for value in (None, 4, "abc", True, {0: 1, 1: 2}, (), [1], [0] * 7, (0,) * 12, [None] * 7):
                self.refused("BadGrades", -1, call, value, None)
            for entry in NO_WHOLE:
                self.refused("BadGrades", 1, call, [1, entry, entry], None)

    def test_marks(self):
        for call in self.calls:
            for value in (None, 4, "abc", True, {}):
                self.refused("BadMark", -1, call, [1, 2], value)
            self.refused("BadMark", 0, call, [1, 2], [None, None])
            self.refused("BadMark", 1, call, [1, 2], [(0, 1, "take"), (0, 2, "take")])
            self.refused("BadMark", 1, call, (1, 2, 3), [(0, 2, "take"), (2, 2, "take")])

    def test_states_raises_with_the_first_item(self):
        for grades, marks in (([1], []), ([1, None], []), ([1, 2], None), ([1, 2], [(0, 1, "no")])):
            made = states(grades, marks)
            with self.assertRaises(ValueError):
                next(made)


if __name__ == "__main__":
    unittest.main()
