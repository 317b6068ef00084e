"""Points 109 and 115: grade counts that run by themselves."""

import unittest
from itertools import product
from time import perf_counter

from copyrates.blockruns import runs_alone
from copyrates.gradecounts import grade_rate, grades_alone, uneven_rows
from copyrates.worlds import World
from tests.kit import BIG, NO_WHOLE, Checks, do, own, rate, ring_takes, some_worlds, table
from tests.test_blockruns import alone_worlds, is_flat, partitions

TRIANGLE = World(ring_takes(3))
CHANGES = [(g, h) for g in range(3) for h in range(3) if g != h]


def change_rates(world, blocks, row):
    """For each block and each change of grades the rate of the marks that make it."""
    found = {(number, g, h): 0 for number in range(len(blocks)) for g, h in CHANGES}
    spots = {place: number for number, block in enumerate(blocks) for place in block}
    for mark in own(world):
        after = do(row, [mark])
        if after != row:
            found[(spots[mark[0]], row[mark[0]], after[mark[0]])] += rate(world, mark)
    return found


def counts(blocks, row):
    return tuple(tuple(sum(row[place] == grade for place in block) for grade in range(3)) for block in blocks)


def told_alone(world, blocks):
    return all(
        is_flat(rows, one, other) for rows in (world.takes, world.calls) for one in blocks for other in blocks
    )


class GradeRate(Checks):
    def test_definition(self):
        for world in list(some_worlds(3, 4, 109)) + list(some_worlds(4, 1, 110)):
            for blocks in partitions(world.size)[::3]:
                told = [list(block)[::-1] for block in blocks]
                for row in product(range(3), repeat=world.size):
                    for (number, g, h), wanted in change_rates(world, blocks, row).items():
                        self.same(grade_rate(world, told, list(row), number, g, h), wanted)

    def test_plain(self):
        world = World([[0, 1], [2, 0]], calls=[[0, 0], [5, 0]])
        self.same([grade_rate(world, [(0, 1)], (2, 0), 0, g, h) for g, h in ((0, 2), (2, 0), (0, 1), (1, 2))], [7, 1, 0, 0])
        great = World(table(6, lambda i, j: BIG), calls=table(6, lambda i, j: BIG))
        self.same(grade_rate(great, [(0, 1, 2, 3, 4, 5)], (0, 1, 2) * 2, 0, 0, 2), 8 * BIG)

    def test_refused(self):
        blocks = [(0, 1), (2,)]
        for wrong, place in ((None, -1), ([(0, 1), ()], -1), ([(0, 1), (3,)], -1), ([(0, 1)], 2), ([(0, 1), (1, 2)], 1)):
            self.refused("BadBlocks", place, grade_rate, TRIANGLE, wrong, None, None, None, None)
            self.refused("BadBlocks", place, grades_alone, TRIANGLE, wrong)
            self.refused("BadBlocks", place, uneven_rows, TRIANGLE, wrong)
        for row in (None, 3, "012", (), [1, 2], (0, 1, 2, 0), {0: 1, 1: 1, 2: 1}):
            self.refused("BadGrades", -1, grade_rate, TRIANGLE, blocks, row, None, None, None)
        for entry in NO_WHOLE + (-1, 3):
            self.refused("BadGrades", 1, grade_rate, TRIANGLE, blocks, (0, entry, entry), None, None, None)
        for number in NO_WHOLE + (-1, 2):
            self.refused("BadNumber", "number", grade_rate, TRIANGLE, blocks, (0, 1, 2), number, None, None)
        for g in NO_WHOLE + (-1, 3):
            self.refused("BadNumber", "g", grade_rate, TRIANGLE, blocks, (0, 1, 2), 0, g, None)
        for h in NO_WHOLE + (-1, 3, 1):
            self.refused("BadNumber", "h", grade_rate, TRIANGLE, blocks, (0, 1, 2), 0, 1, h)

    def test_arguments_stay(self):
        blocks, row = [[2, 0], [1]], [1, 0, 2]
        (grade_rate(TRIANGLE, blocks, row, 0, 0, 1), grades_alone(TRIANGLE, blocks), uneven_rows(TRIANGLE, blocks))
        self.assertEqual((blocks, row), ([[2, 0], [1]], [1, 0, 2]))


class Alone(Checks):
    def check(self, world, blocks):
        wanted = told_alone(world, blocks)
        self.assertIs(grades_alone(world, [list(block) for block in blocks]), wanted)
        told = self.told(uneven_rows(world, blocks))
        if wanted:
            self.assertIsNone(told)
            return True
        one, other, number, g, h = told
        self.assertEqual((len(one), len(other)), (world.size, world.size))
        self.assertTrue(set(one + other) <= {0, 1, 2})
        self.assertEqual(counts(blocks, one), counts(blocks, other))
        rates = [change_rates(world, blocks, row)[(number, g, h)] for row in (one, other)]
        self.assertNotEqual(rates[0], rates[1])
        return False

    def test_by_all_rows(self):
        found = []
        worlds = list(some_worlds(3, 12, 1, zeros=1, top=1)) + list(some_worlds(4, 3, 2, zeros=1, top=1))
        for world in worlds + [World([[0] * 3] * 3), World([[0, 1], [1, 0]]), World([[0, 1], [2, 0]])]:
            for blocks in partitions(world.size):
                groups = {}
                for row in product(range(3), repeat=world.size):
                    groups.setdefault(counts(blocks, row), []).append(change_rates(world, blocks, row))
                alone = all(rates == group[0] for group in groups.values() for rates in group)
                self.assertIs(self.check(world, blocks), alone)
                found.append(alone)
        self.assertGreater(found.count(True), 10)
        self.assertGreater(found.count(False), 10)

    def test_blocks_that_run_alone(self):
        found = set()
        for world, blocks in alone_worlds():
            if world.size < 6:
                self.assertIs(runs_alone(world, blocks), True)
                found.add(self.check(world, blocks))
        self.assertEqual(found, {True, False})

    def test_greatest(self):
        flat = World(table(6, lambda i, j: BIG), calls=table(6, lambda i, j: BIG - 1))
        since = perf_counter()
        for blocks in (((0, 1, 2, 3, 4, 5),), ((1, 3, 5), (0, 2, 4)), tuple((place,) for place in range(6))):
            self.assertTrue(self.check(flat, blocks))
        self.assertLess(perf_counter() - since, 6)
        self.assertFalse(self.check(World(table(6, lambda i, j: 7 - (i == j + 5))), ((5, 4, 3, 2, 1, 0),)))


if __name__ == "__main__":
    unittest.main()
