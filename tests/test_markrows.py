"""Points 24 and 25: sums of weights over all rows of a number of own marks."""

import unittest
from fractions import Fraction
from itertools import product

from copyrates.markrows import backward, decided_share, forward
from copyrates.worlds import World
from tests.kit import (
    BIG, NO_WHOLE, Checks, do, lots, own, pair, path_web, rate, ring_takes, some_worlds, start, stepped, table, webs,
)


def weighed_rows(world, number):
    for row in product(own(world), repeat=number):
        worth = 1
        for mark in row:
            worth *= rate(world, mark)
        yield row, worth


def small_worlds():
    found = list(webs(2)) + list(some_worlds(2, 6, 2, zeros=0)) + list(some_worlds(3, 6, 3, zeros=1))
    found.append(World(table(3, lambda i, j: 0)))
    found.append(World(path_web([1, 0, 2]), calls=[[0, 1, 0], [0, 0, 0], [0, 0, 0]]))
    found.append(World([[0, BIG, 0], [0, 0, BIG - 1], [0, 0, 0]], calls=[[0, BIG, 0], [0, 0, 0], [0, 0, 0]]))
    return found


class BothWays(Checks):
    def test_all_rows(self):
        for world in small_worlds():
            size = world.size
            for number in (0, 1, 2, 3) if size == 2 else (0, 1, 2):
                rows = list(weighed_rows(world, number))
                for first in lots(size):
                    for lot in lots(size):
                        there = back = 0
                        for row, worth in rows:
                            ends = do(start(first, size), row)
                            there += worth * any(ends[i] == 1 for i in lot)
                            back += worth * bool(set(stepped(lot, row)) & set(first))
                        self.same(forward(world, number, first, lot), there)
                        self.same(backward(world, number, list(first), list(reversed(lot))), back)
                        self.assertEqual(there, back)

    def test_equal_sums(self):
        for size in (2, 3, 4, 5):
            for world in some_worlds(size, 3, 10 + size, zeros=3):
                for number in (0, 1, 4, 7, 30):
                    for first in lots(size)[::3]:
                        for lot in lots(size)[1::4]:
                            there = forward(world, number, first, lot)
                            self.same(backward(world, number, first, lot), there)
                            self.assertTrue(0 <= there <= world.total ** number)

    def test_no_marks(self):
        for world in (World(table(4, lambda i, j: 0)), World(ring_takes(4))):
            for first in lots(4):
                for lot in lots(4):
                    wanted = int(bool(set(first) & set(lot)))
                    self.same(forward(world, 0, first, lot), wanted)
                    self.same(backward(world, 0, first, lot), wanted)

    def test_no_ties(self):
        world = World(table(5, lambda i, j: 0))
        for number in (1, 2, 30):
            self.same(forward(world, number, [0, 1, 2, 3, 4], [0]), 0)
            self.same(backward(world, number, [0, 1, 2, 3, 4], [0]), 0)

    def test_ends(self):
        for world in some_worlds(4, 4, 44):
            for number in (1, 5):
                self.same(forward(world, number, (0, 1, 2, 3), (2,)), world.total ** number)
                self.same(backward(world, number, (0, 1, 2, 3), (2,)), world.total ** number)
                for call in (forward, backward):
                    self.same(call(world, number, (), (0, 1, 2, 3)), 0)
                    self.same(call(world, number, (0, 1, 2, 3), ()), 0)

    def test_start_and_lot_are_not_one(self):
        world = World([[0, 1, 0], [0, 0, 0], [0, 0, 0]])
        for call in (forward, backward):
            self.same(call(world, 1, (1,), (0,)), 1)
            self.same(call(world, 1, (0,), (1,)), 0)

    def test_great_rates(self):
        world = World(table(5, lambda i, j: BIG), calls=table(5, lambda i, j: BIG))
        self.same(forward(world, 30, [0], [1, 2, 3, 4, 0]), backward(world, 30, [0], [0, 1, 2, 3, 4]))
        self.same(forward(world, 30, [4, 3, 2, 1, 0], [1]), (40 * BIG) ** 30)


class Shares(Checks):
    def wanted(self, world, number):
        size = world.size
        sums = {lot: 0 for lot in lots(size)}
        for row, worth in weighed_rows(world, number):
            sources = {stepped((i,), row) for i in range(size)}
            if len(sources) == 1:
                sums[sources.pop()] += worth
        whole = world.total ** number
        return tuple(pair(Fraction(sums[lot], whole)) if sums[lot] else (0, 1) for lot in lots(size))

    def test_all_rows(self):
        for world in small_worlds():
            for number in (0, 1, 2, 3, 4, 5) if world.size == 2 else (0, 1, 2, 3):
                self.same(decided_share(world, number), self.wanted(world, number))

    def test_never_falls(self):
        for world in small_worlds():
            last = [Fraction(0)] * (1 << world.size)
            for number in range(7):
                row = decided_share(world, number)
                self.assertIs(type(row), tuple)
                self.assertEqual(len(row), 1 << world.size)
                now = [self.fraction(entry) for entry in row]
                self.assertTrue(all(a <= b for a, b in zip(last, now)))
                self.assertLessEqual(sum(now), 1)
                self.same(row[0], (0, 1))
                last = now

    def test_no_ties(self):
        for size in (2, 3):
            for number in range(7):
                self.same(decided_share(World(table(size, lambda i, j: 0)), number), ((0, 1),) * (1 << size))

    def test_plain(self):
        self.same(decided_share(World([[0, 1], [0, 0]]), 6), ((0, 1), (0, 1), (1, 1), (0, 1)))
        self.same(decided_share(World([[0, 1], [2, 0]]), 1), ((0, 1), (2, 3), (1, 3), (0, 1)))


class Refused(Checks):
    def test_size_first(self):
        for size in (4, 5, 6):
            world = World(table(size, lambda i, j: 1))
            self.refused("TooMany", size, decided_share, world, None)
        for call in (forward, backward):
            self.refused("TooMany", 6, call, World(table(6, lambda i, j: 0)), None, None, None)

    def test_number(self):
        world = World(ring_takes(3))
        for number in NO_WHOLE + (-1, 31):
            for call in (forward, backward):
                self.refused("BadNumber", "number", call, world, number, None, None)
        for number in NO_WHOLE + (-1, 7):
            self.refused("BadNumber", "number", decided_share, world, number)

    def test_start_ahead_of_the_lot(self):
        world = World(ring_takes(3))
        for call in (forward, backward):
            for value, place in ((None, None), (3, None), ([0, 3], 3), ((1, 1), 1), ([True], True)):
                self.refused("BadLot", place, call, world, 2, value, "lot")
                self.refused("BadLot", place, call, world, 2, value, [8])
                self.refused("BadLot", place, call, world, 2, [0], value)

    def test_arguments_stay(self):
        first, lot = [2, 0], [1, 0]
        for call in (forward, backward):
            call(World(ring_takes(3)), 3, first, lot)
        self.assertEqual((first, lot), ([2, 0], [1, 0]))


if __name__ == "__main__":
    unittest.main()
