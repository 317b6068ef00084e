"""Point 1: fractions."""

import unittest
from fractions import Fraction

from copyrates.ratios import added, compare, fraction_of, less, over, ratio, times, total_of
from tests.kit import NO_WHOLE, Checks, pair

NO_FRACTION = (
    True, False, None, "1/2", 0.5, (), (1,), [1], (1, 2, 3), (1, 0), (1, -2), (0, 0), (True, 2), (1, True),
    (None, 1), (1, "2"), ((1, 2), 3), [1, [2]], {1: 2}, (1.0, 2), Fraction(1, 2),
)
MANY = 10 ** 99 + 7
SOME = (
    0, 1, -1, 7, (0, 5), (3, 4), (-3, 4), [6, 8], (-10, 4), (2, 6), [5, 1], MANY, (MANY, MANY - 4), (-MANY, 3),
    (1, MANY), (2 * MANY, 2),
)


def worth(value):
    return Fraction(value) if isinstance(value, int) else Fraction(value[0], value[1])


class Ratio(Checks):
    def test_lowest_terms(self):
        self.same(ratio(6, 4), (3, 2))
        self.same(ratio(6, -4), (-3, 2))
        self.same(ratio(-6, -4), (3, 2))
        self.same(ratio(-6, 4), (-3, 2))
        self.same(ratio(0, -7), (0, 1))
        self.same(ratio(0, 9), (0, 1))
        self.same(ratio(5), (5, 1))
        self.same(ratio(-5), (-5, 1))
        self.same(ratio(4, 2), (2, 1))

    def test_many_digits(self):
        self.same(ratio(MANY * 12, MANY * -18), (-2, 3))
        self.same(ratio(MANY, MANY - 4), pair(Fraction(MANY, MANY - 4)))

    def test_refused(self):
        for value in NO_WHOLE:
            self.refused("BadNumber", "top", ratio, value, 2)
            self.refused("BadNumber", "bottom", ratio, 2, value)
            self.refused("BadNumber", "top", ratio, value)
        self.refused("BadNumber", "bottom", ratio, 1, 0)
        self.refused("BadNumber", "bottom", ratio, 0, 0)
        self.refused("BadNumber", "top", ratio, None, 0)


class FractionOf(Checks):
    def test_any_terms(self):
        for value in SOME:
            self.same(fraction_of(value, "x"), pair(worth(value)))
        self.same(fraction_of([0, 8], "x"), (0, 1))
        self.same(fraction_of((-4, 6), "x"), (-2, 3))

    def test_refused(self):
        for value in NO_FRACTION:
            self.refused("BadFraction", "thing", fraction_of, value, "thing")


class Sums(Checks):
    def test_exact(self):
        for a in SOME:
            for b in SOME:
                self.same(added(a, b), pair(worth(a) + worth(b)))
                self.same(less(a, b), pair(worth(a) - worth(b)))
                self.same(times(a, b), pair(worth(a) * worth(b)))
                if worth(b) != 0:
                    self.same(over(a, b), pair(worth(a) / worth(b)))
                self.same(compare(a, b), (worth(a) > worth(b)) - (worth(a) < worth(b)))

    def test_refused(self):
        for call in (added, less, times, over, compare):
            for value in NO_FRACTION:
                self.refused("BadFraction", "a", call, value, 1)
                self.refused("BadFraction", "b", call, (1, 2), value)
                self.refused("BadFraction", "a", call, value, value)

    def test_division_by_zero(self):
        for zero in (0, (0, 1), [0, 7]):
            self.refused("BadFraction", "b", over, 1, zero)
            self.refused("BadFraction", "b", over, 0, zero)
            self.refused("BadFraction", "a", over, "no", zero)

    def test_compare_with_zero(self):
        self.same(compare(1, 0), 1)
        self.same(compare((0, 3), [0, 7]), 0)
        self.same(compare((-1, 7), 0), -1)

    def test_compare_close_by(self):
        self.same(compare((MANY, MANY + 1), (MANY + 1, MANY + 2)), -1)
        self.same(compare((MANY + 1, MANY + 2), (MANY, MANY + 1)), 1)
        self.same(compare((2, 4), (1, 2)), 0)


class TotalOf(Checks):
    def test_sums(self):
        self.same(total_of([]), (0, 1))
        self.same(total_of(()), (0, 1))
        self.same(total_of((1, 2)), (3, 1))
        self.same(total_of([(1, 2), [1, 3], (1, 6), -1]), (0, 1))
        self.same(total_of(list(SOME)), pair(sum(worth(value) for value in SOME)))
        self.same(total_of(SOME), pair(sum(worth(value) for value in SOME)))

    def test_refused(self):
        for value in (None, True, 3, "12", {1: 2}, (row for row in ())):
            self.refused("BadFraction", "rows", total_of, value)
        for value in NO_FRACTION:
            self.refused("BadFraction", "rows", total_of, [1, value])
            self.refused("BadFraction", "rows", total_of, (value, 1))

    def test_arguments_stay(self):
        rows = [1, [2, 4], (1, 2)]
        total_of(rows)
        self.assertEqual(rows, [1, [2, 4], (1, 2)])
        value = [2, 4]
        fraction_of(value, "x")
        added(value, value)
        self.assertEqual(value, [2, 4])


if __name__ == "__main__":
    unittest.main()
