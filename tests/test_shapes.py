"""Points 10 to 12: sides, lines and fair webs."""

import unittest
from itertools import permutations

from copyrates.linking import shut_lot
from copyrates.shapes import branch, fair_break, is_two_way, line, odd_ring, sides
from copyrates.worlds import World
from tests.kit import BIG, Checks, linked, lots, path_web, ring_takes, some_linked, some_worlds, table, webs

LINKED_CALLS = (sides, odd_ring, line, branch, fair_break)


def joined(size, ties, entry=lambda i, j: 1):
    """The two-way web with these ties and their turned pairs."""
    return World(table(size, lambda i, j: entry(i, j) if (i, j) in ties or (j, i) in ties else 0))


def trial_worlds():
    found = [world for size in (2, 3) for world in webs(size) if linked(world)]
    for size, zeros in ((3, 0), (4, 2), (4, 5), (5, 4), (5, 8), (6, 5), (6, 9)):
        found.extend(some_linked(size, 40, size + 50 * zeros, zeros=zeros))
    for size in range(2, 7):
        found.append(World(ring_takes(size)))
        found.append(World(path_web(list(range(size)))))
    found.append(World(path_web([3, 5, 0, 1, 4, 2], lambda i, j: i + 7 * j + 1)))
    found.append(joined(4, {(0, 1), (1, 2), (2, 3), (3, 0)}))
    found.append(joined(6, {(0, 3), (0, 4), (0, 5), (1, 3), (1, 4), (1, 5), (2, 3), (2, 4), (2, 5)}))
    found.append(joined(6, {(0, 5), (0, 4), (0, 3), (4, 1), (3, 2)}))
    found.append(joined(5, {(4, 0), (4, 1), (4, 2), (4, 3)}))
    found.append(joined(6, {(0, 1), (1, 2), (2, 3), (3, 4), (4, 5), (5, 3)}))
    found.append(World(table(6, lambda i, j: 1)))
    return found


def rings(world, least=3):
    """All rings of at least this many places, by the words of point 7."""
    found = []
    for many in range(least, world.size + 1):
        for row in permutations(range(world.size), many):
            if row[0] == min(row) and all(world.takes[i][j] for i, j in zip(row, row[1:] + row[:1])):
                found.append(row)
    return found


def one_way(world):
    return [(i, j) for i, j in world.ties() if world.takes[j][i] == 0]


class TwoWay(Checks):
    def test_two_way(self):
        for world in list(webs(2)) + list(webs(3)) + list(some_worlds(5, 30, 1, zeros=8)) + trial_worlds():
            self.same(is_two_way(world), not one_way(world))

    def test_needs_no_linked_world(self):
        self.same(is_two_way(World(table(6, lambda i, j: 0))), True)
        self.same(is_two_way(World([[0, 1], [0, 0]])), False)


class Sides(Checks):
    def two(self, world):
        """The sides, by trying all lots with place 0."""
        every = set(range(world.size))
        for lot in lots(world.size):
            if 0 in lot and all((i in lot) != (j in lot) for i, j in world.ties()):
                return (lot, tuple(sorted(every - set(lot))))
        return None

    def test_sides(self):
        seen = 0
        for world in trial_worlds():
            self.same(sides(world), self.two(world))
            seen += sides(world) is not None
        self.assertGreater(seen, 8)
        self.same(sides(World([[0, 1], [1, 0]])), ((0,), (1,)))
        self.same(sides(World(ring_takes(6))), ((0, 2, 4), (1, 3, 5)))
        self.same(sides(World(path_web([3, 5, 0, 1, 4, 2]))), ((0, 3, 4), (1, 2, 5)))

    def test_odd_ring(self):
        for world in trial_worlds():
            walk = self.told(odd_ring(world))
            if self.two(world) is not None:
                self.assertIsNone(walk)
                continue
            self.assertIs(type(walk), tuple)
            self.assertEqual(len(walk) % 2, 1)
            self.assertLessEqual(len(walk), 2 * world.size)
            self.assertTrue(all(world.takes[i][j] for i, j in zip(walk, walk[1:] + walk[:1])))


class Lines(Checks):
    def order(self, world):
        """The order of a line, by trying all orders."""
        for row in permutations(range(world.size)):
            if row[0] < row[-1]:
                beside = {(i, j) for i, j in zip(row, row[1:])} | {(j, i) for i, j in zip(row, row[1:])}
                if beside == set(world.ties()):
                    return row
        return None

    def test_line(self):
        seen = 0
        for world in trial_worlds():
            self.same(line(world), self.order(world))
            seen += line(world) is not None
        self.assertGreater(seen, 6)

    def test_lesser_end_first(self):
        for row in permutations(range(4)):
            self.same(line(World(path_web(row))), min(row, row[::-1], key=lambda order: order[0]))
        self.same(line(World([[0, 7], [BIG, 0]])), (0, 1))
        self.same(line(World(path_web([5, 3, 0, 1, 4, 2]))), (2, 4, 1, 0, 3, 5))

    def test_branch(self):
        seen = set()
        for world in trial_worlds():
            found = self.told(branch(world))
            if self.order(world) is not None:
                self.assertIsNone(found)
                continue
            self.assertIs(type(found), tuple)
            self.assertEqual(len(found), 2)
            seen.add(found[0])
            crowded = [i for i in range(world.size) if sum(take > 0 for take in world.takes[i]) >= 3]
            if one_way(world):
                self.same(found, ("one-way", one_way(world)[0]))
            elif rings(world):
                self.assertEqual(found[0], "ring")
                self.assertIn(found[1], rings(world))
            else:
                self.same(found, ("place", crowded[0]))
        self.assertEqual(seen, {"one-way", "ring", "place"})

    def test_branch_of_stars(self):
        self.same(branch(joined(4, {(3, 0), (3, 1), (3, 2)})), ("place", 3))
        self.same(branch(joined(6, {(0, 1), (1, 2), (1, 3), (3, 4), (3, 5)})), ("place", 1))
        self.same(branch(World(ring_takes(3))), ("one-way", (0, 1)))
        self.assertIn(branch(World(table(3, lambda i, j: 1))), (("ring", (0, 1, 2)), ("ring", (0, 2, 1))))


class Fair(Checks):
    def breaking(self, world):
        """All rings of three or more places whose products differ."""
        found = []
        for ring in rings(world):
            there = back = 1
            for i, j in zip(ring, ring[1:] + ring[:1]):
                there *= world.takes[i][j]
                back *= world.takes[j][i]
            if there != back:
                found.append(ring)
        return found

    def test_fair_break(self):
        seen = set()
        for world in trial_worlds():
            found = self.told(fair_break(world))
            if one_way(world):
                self.same(found, one_way(world)[0])
                seen.add("tie")
            elif self.breaking(world):
                self.assertIn(found, self.breaking(world))
                seen.add("ring")
            else:
                self.assertIsNone(found)
                seen.add("fair")
        self.assertEqual(seen, {"tie", "ring", "fair"})

    def test_fair_worlds_by_numbers(self):
        for size in (2, 3, 4, 6):
            weights = [3, 1, 5, 2, 7, 4][:size]
            takes = table(size, lambda i, j: (i + j + 1) * 840 // weights[i])
            self.assertTrue(all(weights[i] * takes[i][j] == weights[j] * takes[j][i]
                                for i in range(size) for j in range(size)))
            self.same(fair_break(World(takes)), None)
            if size > 2:
                takes[0][1] += 1
                self.assertIn(fair_break(World(takes)), self.breaking(World(takes)))

    def test_only_a_long_ring_breaks(self):
        entry = {(0, 1): 2}
        world = joined(6, {(k, (k + 1) % 6) for k in range(6)}, lambda i, j: entry.get((i, j), 1))
        self.assertIn(fair_break(world), ((0, 1, 2, 3, 4, 5), (0, 5, 4, 3, 2, 1)))

    def test_great_rates(self):
        takes = table(3, lambda i, j: BIG)
        self.same(fair_break(World(takes)), None)
        takes[2][0] -= 1
        self.assertIn(fair_break(World(takes)), ((0, 1, 2), (0, 2, 1)))

    def test_calls_play_no_part(self):
        for world in some_linked(4, 40, 77, zeros=1):
            for call in LINKED_CALLS + (is_two_way,):
                self.same(call(world), call(World(world.takes)))


class NotLinked(Checks):
    def test_refused(self):
        seen = 0
        for world in list(webs(3)) + list(some_worlds(5, 30, 3, zeros=9)) + [World(table(6, lambda i, j: 0))]:
            if not linked(world):
                seen += 1
                for call in LINKED_CALLS:
                    self.refused("NotLinked", shut_lot(world), call, world)
        self.assertGreater(seen, 30)
        self.refused("NotLinked", (1, 2), line, World([[0, 1, 0], [0, 0, 1], [0, 1, 0]]))


if __name__ == "__main__":
    unittest.main()
