"""Points 26 and 27: pairs of walks."""

import unittest

from copyrates.exchange import pairs_from, walk_row
from copyrates.runtables import Run
from copyrates.worlds import World
from tests.kit import NO_WHOLE, Checks, path_web, ring_takes, some_linked, table


def all_pairs(size):
    return [(i, j) for i in range(size) for j in range(size) if i != j]


def distances(world, pair):
    """How many takes bring the walks from the pair to each pair that they can come to."""
    found = {pair: 0}
    edge = [pair]
    while edge:
        further = []
        for one, other in edge:
            for i, j in world.ties():
                moved = (j if one == i else one, j if other == i else other)
                if moved[0] != moved[1] and moved not in found:
                    found[moved] = found[(one, other)] + 1
                    further.append(moved)
        edge = further
    return found


def trial_worlds():
    found = []
    for size, zeros in ((2, 0), (3, 3), (4, 4), (5, 6)):
        found.extend(some_linked(size, 20, 7 * size, zeros=zeros)[:6])
    found.extend(some_linked(6, 10, 6, zeros=8)[:2])
    found.extend([World(ring_takes(size)) for size in (3, 4, 6)])
    found.extend([World(path_web(order)) for order in ([1, 0], [1, 0, 2], [2, 0, 3, 1], [4, 0, 5, 2, 1, 3])])
    found.append(World(table(4, lambda i, j: 1 if 0 in (i, j) else 0)))
    return found


class Walks(Checks):
    def test_rows(self):
        for world in trial_worlds():
            for pair in all_pairs(world.size):
                far = distances(world, pair)
                for goal in all_pairs(world.size):
                    row = self.told(walk_row(world, list(pair), goal))
                    if goal not in far:
                        self.assertIsNone(row)
                        continue
                    self.assertIs(type(row), tuple)
                    self.assertEqual(len(row), far[goal])
                    self.assertTrue(all(word == "take" and world.takes[i][j] for i, j, word in row))
                    self.same(Run(world.size, row).back((pair[0],)), (goal[0],))
                    self.same(Run(world.size, row).back((pair[1],)), (goal[1],))

    def test_the_same_pair(self):
        for world in trial_worlds():
            for pair in all_pairs(world.size):
                self.same(walk_row(world, pair, list(pair)), ())

    def test_opposite_order(self):
        ring = World(ring_takes(4))
        self.same(walk_row(ring, (0, 1), (1, 2)), ((0, 1, "take"), (1, 2, "take")))
        self.same(walk_row(ring, (2, 3), (2, 1)), ((0, 1, "take"), (3, 0, "take")))

    def test_pairs(self):
        for world in trial_worlds():
            for pair in all_pairs(world.size):
                self.same(pairs_from(world, pair), tuple(sorted(distances(world, pair))))
                self.same(pairs_from(world, list(pair)), tuple(sorted(distances(world, pair))))


class Lines(Checks):
    def test_no_line_comes_to_every_pair(self):
        for size in (3, 4, 6):
            every = tuple(all_pairs(size))
            for pair in every:
                self.same(pairs_from(World(ring_takes(size)), pair), every)
                self.same(pairs_from(World(table(size, lambda i, j: 1)), pair), every)

    def test_lines_keep_the_order(self):
        for order in ([1, 0], [1, 0, 2], [2, 0, 3, 1], [4, 0, 5, 2, 1, 3]):
            world = World(path_web(order))
            at = {place: k for k, place in enumerate(order)}
            for pair in all_pairs(len(order)):
                wanted = [goal for goal in all_pairs(len(order))
                          if (at[pair[0]] < at[pair[1]]) == (at[goal[0]] < at[goal[1]])]
                self.same(pairs_from(world, pair), tuple(wanted))
                self.same(walk_row(world, pair, (pair[1], pair[0])), None)


class Refused(Checks):
    bad = ((None, None), (3, None), ("01", None), ({0: 1, 1: 0}, None), ((), None), ((0,), None), ((0, 1, 2), None),
           ((0, 3), 3), ((3, 0), 3), ((-1, 7), -1), ((7, -1), 7), ((0, 0), 0), ([2, 2], 2), ((5, 5), 5), (([0], 1), [0]))

    def test_linked_ahead_of_the_pairs(self):
        world = World([[0, 1, 0], [0, 0, 1], [0, 1, 0]])
        self.refused("NotLinked", (1, 2), walk_row, world, None, None)
        self.refused("NotLinked", (1, 2), pairs_from, world, None)
        self.refused("NotLinked", (1, 2), pairs_from, world, (0, 1))

    def test_pairs(self):
        world = World(ring_takes(3))
        for value, place in self.bad + tuple(((entry, 0), entry) for entry in NO_WHOLE) + tuple(
                ((0, entry), entry) for entry in NO_WHOLE):
            self.refused("BadPlace", place, pairs_from, world, value)
            self.refused("BadPlace", place, walk_row, world, value, (9, 9))
            self.refused("BadPlace", place, walk_row, world, [0, 1], value)

    def test_arguments_stay(self):
        pair, goal = [0, 1], [2, 0]
        walk_row(World(ring_takes(3)), pair, goal)
        pairs_from(World(ring_takes(3)), pair)
        self.assertEqual((pair, goal), ([0, 1], [2, 0]))


if __name__ == "__main__":
    unittest.main()
