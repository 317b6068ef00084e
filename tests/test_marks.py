"""Points 16 and 17: marks, own marks and their rates."""

import unittest

from copyrates.marks import mark_of, marks_of, of_world, weight
from copyrates.worlds import World
from tests.kit import BIG, Checks, own, rate, some_marks, some_worlds

NO_MARK = (
    None, 3, "0<1", True, {0: 1}, (), (0, 1), (0, 1, "take", 0), (0, 0, "take"), (1, 1, "call"), (0, 3, "take"),
    (3, 0, "call"), (-1, 0, "take"), (0, -1, "take"), (0, 1, "Take"), (0, 1, "copy"), (0, 1, ""), (0, 1, None),
    (0, 1, ["take"]), (0, 1, b"take"), (True, 0, "take"), (0, True, "take"), (None, 0, "take"), ("0", 1, "take"),
    (0, 1.0, "call"), [[0], 1, "call"], (0, "call", 1), ("take", 0, 1), (0, 1, 0), (0, 1, ("take",)),
)


class MarkOf(Checks):
    def test_marks(self):
        for size in (2, 3, 6):
            for i in range(size):
                for j in range(size):
                    for word in ("take", "call"):
                        wanted = None if i == j else (i, j, word)
                        self.same(mark_of((i, j, word), size), wanted)
                        self.same(mark_of([i, j, word], size), wanted)

    def test_no_marks(self):
        for value in NO_MARK:
            self.same(mark_of(value, 3), None)
        self.same(mark_of((0, 2, "take"), 2), None)
        self.same(mark_of((5, 0, "take"), 5), None)
        self.same(mark_of((5, 0, "take"), 6), (5, 0, "take"))


class MarksOf(Checks):
    def test_rows(self):
        self.same(marks_of([], 2), ())
        self.same(marks_of((), 6), ())
        row = [[0, 1, "take"], (2, 0, "call")]
        self.same(marks_of(row, 3), ((0, 1, "take"), (2, 0, "call")))
        self.assertEqual(row, [[0, 1, "take"], (2, 0, "call")])
        many = some_marks(6, 400, 1)
        self.same(marks_of(many, 6), tuple(many))
        self.same(marks_of(tuple(map(list, many)), 6), tuple(many))

    def test_refused(self):
        world = World([[0, 1, 1], [1, 0, 1], [1, 1, 0]])
        for call in (lambda m: marks_of(m, 3), lambda m: of_world(world, m), lambda m: weight(world, m)):
            for value in (None, 3, "take", True, {0: (0, 1, "take")}, (row for row in ())):
                self.refused("BadMark", -1, call, value)
            for value in NO_MARK:
                self.refused("BadMark", 0, call, [value])
                self.refused("BadMark", 2, call, ((0, 1, "take"), [1, 2, "call"], value, None))


class OfWorld(Checks):
    def test_own_marks(self):
        for size in (2, 3, 6):
            for world in some_worlds(size, 20, size):
                marks = own(world)
                self.same(of_world(world, marks), True)
                self.same(of_world(world, ()), True)
                for i in range(size):
                    for j in range(size):
                        for word in ("take", "call"):
                            if i != j:
                                mark = (i, j, word)
                                self.same(of_world(world, [mark]), rate(world, mark) > 0)
                                self.same(of_world(world, marks + [mark]), rate(world, mark) > 0)
                                self.same(of_world(world, [mark] + marks), rate(world, mark) > 0)
                                self.same(weight(world, [mark]), rate(world, mark))

    def test_weight(self):
        for world in some_worlds(4, 20, 4):
            marks = own(world)
            product = 1
            for mark in marks:
                product *= rate(world, mark)
            self.same(weight(world, marks), product)
            self.same(weight(world, [list(mark) for mark in marks + marks]), product * product)
            self.same(weight(world, []), 1)
            self.same(weight(world, ()), 1)

    def test_rate_zero(self):
        world = World([[0, 3, 0], [1, 0, 0], [0, 0, 0]], calls=[[0, 5, 0], [0, 0, 0], [0, 0, 0]])
        self.same(weight(world, [(0, 1, "take"), (0, 1, "call"), (1, 0, "take")]), 15)
        self.same(weight(world, [(0, 1, "take"), (1, 0, "call"), (0, 1, "call")]), 0)
        self.same(weight(world, [(0, 2, "take"), (0, 1, "call")]), 0)
        self.same(of_world(world, [(0, 1, "take"), (1, 0, "call"), (0, 1, "call")]), False)
        self.refused("BadMark", 1, weight, world, [(0, 2, "take"), (0, 0, "call")])
        self.refused("BadMark", 1, of_world, world, [(0, 2, "take"), (0, 0, "call")])

    def test_great_rates(self):
        world = World([[0, BIG], [1, 0]])
        self.same(weight(world, [(0, 1, "take")] * 50), BIG ** 50)
        self.same(weight(world, [(1, 0, "take")] * 400), 1)


if __name__ == "__main__":
    unittest.main()
