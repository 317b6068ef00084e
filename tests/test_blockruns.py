"""Points 106 to 108 and 115: blocks, and counts in blocks that run by themselves."""

import random
import unittest
from fractions import Fraction

from copyrates.blockruns import (
    block_counts, check_blocks, flattened, rate_down, rate_up, runs_alone, uneven_starts
)
from copyrates.countalone import number_factor
from copyrates.juries import Jury
from copyrates.wins import win_row
from copyrates.worlds import World
from tests.kit import (
    BIG, NO_WHOLE, Checks, linked, lots, number_of_places, ring_takes, some_linked, some_worlds, start_moves, table
)

TRIANGLE = World(ring_takes(3))
TWO_TWO = [(0, 1), (2, 3)]


def partitions(size):
    """All ways to part the places into blocks, the blocks in a fixed order."""
    found = [[]]
    for place in range(size):
        further = []
        for blocks in found:
            further.append(blocks + [(place,)])
            for at in range(len(blocks)):
                further.append(blocks[:at] + [blocks[at] + (place,)] + blocks[at + 1:])
        found = further
    return [tuple(blocks) for blocks in found]


def counts(blocks, lot):
    return tuple(len(set(block) & set(lot)) for block in blocks)


def up_down(world, block, lot):
    """The rates up and down of a block, by what the marks change."""
    up = down = 0
    for reached, rate in start_moves(world, lot).items():
        gained, lost = set(reached) - set(lot), set(lot) - set(reached)
        up += rate if gained & set(block) else 0
        down += rate if lost & set(block) else 0
    return up, down


def is_flat(rows, ones, others):
    return len({rows[i][j] for i in ones for j in others if i != j}) <= 1


def told_alone(world, blocks):
    """Whether the counts run by themselves, as point 107 says."""
    for rows in (world.takes, world.calls):
        for block in blocks:
            if len({rows[i][j] + rows[j][i] for i in block for j in block if i != j}) > 1:
                return False
            if any(sum(rows[i][j] for j in block) != sum(rows[j][i] for j in block) for i in block):
                return False
            if not all(is_flat(rows, block, other) for other in blocks if other != block):
                return False
    return True


def alone_worlds():
    """Pairs of a world and blocks in which counts run by themselves, most of them not flat inside a block."""
    draw = random.Random(107)
    found = [(TRIANGLE, ((0, 1, 2),)), (World([[0, 1, 2], [3, 0, 4], [5, 6, 0]]), ((2,), (0,), (1,)))]
    for blocks in (((0, 1, 2),), ((0, 1, 2), (3,)), ((2, 3), (0, 4, 1)), ((0, 1), (2, 3)), ((4, 0, 2, 5, 1), (3,)),
                   ((5, 1, 3), (0, 2, 4)), ((0,), (1,), (2,)), ((0, 1, 2, 3, 4, 5),)):
        size = sum(map(len, blocks))
        spots = {place: at for at, block in enumerate(blocks) for place in block}
        for _ in range(3):
            between = {(a, b): draw.randrange(0, 4) for a in range(6) for b in range(6)}
            turn = [draw.randrange(-1, 2) for _ in blocks]

            def entry(i, j, least, k):
                a, b = spots[i], spots[j]
                if a != b:
                    return between[(a, b)] * k + least
                block = blocks[a]
                # Round an odd block the entries go up by one at half of the steps ahead and down at the others.
                steps = (block.index(j) - block.index(i)) % len(block)
                odd = len(block) % 2 == 1
                return 3 + least + (turn[a] * (1 if 2 * steps < len(block) else -1) if odd else 0)

            takes = table(size, lambda i, j: entry(i, j, 1, 1))
            calls = table(size, lambda i, j: entry(i, j, 0, 2))
            found.append((World(takes, calls=calls), blocks))
    return found


class Blocks(Checks):
    def test_checked(self):
        self.same(check_blocks([[2, 0], (1,)], 3), ((0, 2), (1,)))
        self.same(check_blocks(((5, 3, 4), [0], [2, 1]), 6), ((3, 4, 5), (0,), (1, 2)))
        self.same(check_blocks([(1,), (0,)], 2), ((1,), (0,)))
        self.same(check_blocks([[1, 0]], 2), ((0, 1),))

    def test_counts(self):
        for size in (2, 3, 4):
            for blocks in partitions(size):
                for lot in lots(size):
                    self.same(self.told(block_counts(blocks, lot[::-1], size)), counts(blocks, lot))
        self.same(block_counts([[5, 3, 4], [0], [2, 1]], [2, 5, 3], 6), (2, 0, 1))

    def test_refused(self):
        for size in NO_WHOLE + (1, 0, 7, -2):
            self.refused("BadNumber", "size", check_blocks, None, size)
            self.refused("BadNumber", "size", block_counts, None, None, size)
        calls = (
            lambda blocks: check_blocks(blocks, 3), lambda blocks: block_counts(blocks, None, 3),
            lambda blocks: rate_up(TRIANGLE, blocks, None, None), lambda blocks: rate_down(TRIANGLE, blocks, None, None),
            lambda blocks: runs_alone(TRIANGLE, blocks), lambda blocks: uneven_starts(TRIANGLE, blocks),
            lambda blocks: flattened(TRIANGLE, blocks),
        )
        for call in calls:
            for blocks in (None, 3, "012", {0: 1}, [0, 1, 2], ["0", "1", "2"], [(0, 1, 2), ()], [(0, 1), None],
                           [(0, 1), (3,)], [(0, 1), (-1,)], [(0, True), (2,)], [(0, 1.0), (2,)], [(0, 0), (7,)],
                           [[[0]], [1], [2]], range(3)):
                self.refused("BadBlocks", -1, call, blocks)
            for blocks, place in (((), 0), ([(0, 1)], 2), ([(2, 1)], 0), ([(0, 1, 2), (1,)], 1), ([(0, 0), (1, 2)], 0),
                                  ([(2, 2), (0, 0)], 0), ([(0,), (0,), (1,), (2,)], 0), ([(2,), (0,), (2,)], 1)):
                self.refused("BadBlocks", place, call, blocks)

    def test_arguments_stay(self):
        blocks, lot = [[2, 0], [1]], [1, 0]
        (check_blocks(blocks, 3), block_counts(blocks, lot, 3), rate_up(TRIANGLE, blocks, lot, 0))
        (runs_alone(TRIANGLE, blocks), flattened(TRIANGLE, blocks))
        self.assertEqual((blocks, lot), ([[2, 0], [1]], [1, 0]))


class Rates(Checks):
    def test_definition(self):
        worlds = list(some_worlds(3, 6, 106)) + list(some_worlds(4, 3, 107)) + list(some_worlds(6, 1, 108))
        for world in worlds:
            for blocks in partitions(world.size)[::5]:
                for lot in lots(world.size):
                    for number, block in enumerate(blocks):
                        told = [list(part)[::-1] for part in blocks]
                        found = (rate_up(world, told, lot, number), rate_down(world, told, list(lot)[::-1], number))
                        self.same(found, up_down(world, block, lot))

    def test_plain(self):
        world = World([[0, 1], [2, 0]], calls=[[0, 0], [5, 0]])
        self.same([rate_up(world, [(0,), (1,)], (0,), k) for k in (0, 1)], [0, 7])
        self.same([rate_down(world, [(0,), (1,)], (0,), k) for k in (0, 1)], [1, 0])
        great = World(table(6, lambda i, j: BIG), calls=table(6, lambda i, j: BIG))
        self.same(rate_up(great, [(5, 4, 3, 2, 1, 0)], (0, 1, 2), 0), 18 * BIG)

    def test_refused(self):
        for call in (rate_up, rate_down):
            for lot, place in ((None, None), (1, None), ((0, 3), 3), ([1, 1], 1), ((True,), True)):
                self.refused("BadLot", place, call, TRIANGLE, [(0, 1), (2,)], lot, None)
            for number in NO_WHOLE + (-1, 2):
                self.refused("BadNumber", "number", call, TRIANGLE, [(0, 1), (2,)], (), number)


class Alone(Checks):
    def check(self, world, blocks):
        """Whether the counts run by themselves; the program says the same, and its witness fits."""
        wanted = told_alone(world, blocks)
        self.assertIs(runs_alone(world, blocks), wanted)
        told = self.told(uneven_starts(world, blocks))
        if wanted:
            self.assertIsNone(told)
            return True
        one, other, number, word = told
        self.assertIn(word, ("up", "down"))
        self.assertEqual((one, other), (tuple(sorted(one)), tuple(sorted(other))))
        self.assertEqual(counts(blocks, one), counts(blocks, other))
        self.assertIn(number, range(len(blocks)))
        at = ("up", "down").index(word)
        self.assertNotEqual(up_down(world, blocks[number], one)[at], up_down(world, blocks[number], other)[at])
        return False

    def test_by_all_starts(self):
        found = []
        worlds = list(some_worlds(3, 20, 1, zeros=1, top=1)) + list(some_worlds(4, 12, 2, zeros=1, top=1))
        worlds.extend([World([[0] * 3] * 3), World([[0] * 6] * 6), World(table(6, lambda i, j: 3))])
        for world in worlds:
            for blocks in partitions(world.size)[:: 1 if world.size < 6 else 40]:
                groups = {}
                for lot in lots(world.size):
                    rates = [up_down(world, block, lot) for block in blocks]
                    groups.setdefault(counts(blocks, lot), []).append(rates)
                alone = all(rates == group[0] for group in groups.values() for rates in group)
                self.assertIs(self.check(world, blocks), alone)
                found.append(alone)
        self.assertGreater(found.count(True), 20)
        self.assertGreater(found.count(False), 20)

    def test_alone_worlds(self):
        bent = 0
        for world, blocks in alone_worlds():
            self.assertTrue(self.check(world, blocks))
            bent += not all(is_flat(world.takes, block, block) for block in blocks)
            rows = [list(row) for row in world.takes]
            i, j = world.ties()[-1]
            rows[i][j] += 1
            self.check(World(rows, calls=world.calls), blocks)
        self.assertGreater(bent, 5)

    def test_edges(self):
        ring = World([[0, 1, 0, 1], [1, 0, 1, 0], [0, 1, 0, 1], [1, 0, 1, 0]])
        self.assertFalse(self.check(ring, ((0, 1, 2, 3),)))
        self.assertIsNotNone(number_factor(ring))
        for world in (ring, TRIANGLE, World([[0] * 5] * 5)):
            self.assertTrue(self.check(world, tuple((place,) for place in range(world.size))))
        self.assertFalse(self.check(World([[0, 1], [2, 0]]), ((0, 1),)))
        # Calls alone that are not even, and takes alone.
        for rows in (([[0, 2], [2, 0]], [[0, 1], [0, 0]]), ([[0, 2], [1, 0]], [[0, 1], [1, 0]])):
            self.assertFalse(self.check(World(rows[0], calls=rows[1]), ((1, 0),)))

    def test_six_places(self):
        world = World(table(6, lambda i, j: BIG - 6 * i - j), calls=table(6, lambda i, j: i + j))
        for blocks in partitions(6)[::9]:
            self.check(world, blocks)


class Flattened(Checks):
    def test_wins(self):
        many = 0
        for world, blocks in alone_worlds():
            if world.size > 5 or not linked(world):
                continue
            row, jury, flat = win_row(world), Jury(world), flattened(world, [list(block) for block in blocks])
            self.same(win_row(flat), row)
            groups, drawn = {}, {}
            for lot in lots(world.size):
                groups.setdefault(counts(blocks, lot), set()).add(row[number_of_places(lot)])
                drawn.setdefault(counts(blocks, lot), set()).add(jury.chances[number_of_places(lot)])
            self.assertEqual({len(group) for group in groups.values()} | {len(group) for group in drawn.values()}, {1})
            for block in blocks:
                self.assertEqual(len({jury.share(place) for place in block}), 1)
            if len(blocks) == 1:
                self.assertIsNotNone(number_factor(world))
            many += 1
        self.assertGreater(many, 12)

    def test_rates(self):
        for world, blocks in alone_worlds():
            flat = flattened(world, blocks)
            self.assertIsInstance(flat, World)
            spots = {place: at for at, block in enumerate(blocks) for place in block}
            for rows, made in ((world.takes, flat.takes), (world.calls, flat.calls)):
                wanted = table(world.size, lambda i, j: Fraction(rows[i][j] + rows[j][i], 2)
                               if spots[i] == spots[j] else rows[i][j])
                self.assertEqual([list(row) for row in made], [[2 * entry for entry in row] for row in wanted])
            self.assertTrue(runs_alone(flat, blocks))

    def test_none(self):
        for world in some_linked(4, 10, 108, zeros=1):
            self.assertIs(flattened(world, TWO_TWO) is None, not runs_alone(world, TWO_TWO))
        self.assertIsNone(flattened(World([[0, 1], [2, 0]]), [(0, 1)]))

    def test_not_linked(self):
        world = World([[0, 0, 0], [2, 0, 0], [2, 0, 0]], calls=[[0, 0, 0], [1, 0, 0], [1, 0, 0]])
        flat = flattened(world, [(1, 2), (0,)])
        self.same((flat.takes, flat.calls), (((0, 0, 0), (4, 0, 0), (4, 0, 0)), ((0, 0, 0), (2, 0, 0), (2, 0, 0))))


if __name__ == "__main__":
    unittest.main()
