"""Point 40: the same winners."""

import unittest
from fractions import Fraction

from copyrates.even import uneven_lot
from copyrates.reshaping import slowed
from copyrates.samewins import flow_gap, same_winners
from copyrates.sayrows import said, says
from copyrates.worlds import World
from tests.kit import BIG, Checks, fractions, lots, pair, path_web, ring_takes, some_linked, table

SHUT = World([[0, 1, 0], [0, 0, 1], [0, 1, 0]], calls=[[0, 1, 0], [0, 0, 0], [0, 0, 0]])
CALLING = World([[0, 1, 1], [1, 0, 1], [1, 1, 0]], calls=[[0, 0, 0], [0, 0, 1], [1, 0, 0]])


def trial_webs():
    found = []
    for size in (2, 3, 4, 6):
        found.extend(some_linked(size, 14, 17 * size, zeros=size - 1, calls=False)[:3])
        found.extend([World(ring_takes(size)), World(table(size, lambda i, j: BIG - 6 * i - j))])
    return found + [World(path_web([1, 0, 3, 2])), World([[0, BIG], [1, 0]])]


def with_says_of(world, other):
    """The other web, slowed so that it has the says of the world."""
    return slowed(other, [pair(own / p) for own, p in zip(fractions(says(other)), fractions(says(world)))])


class SameWinners(Checks):
    def check(self, world, other):
        table = [[pair(p * take) for take in row] for p, row in zip(fractions(says(world)), other.takes)]
        lot = uneven_lot(table)
        one, two = fractions(says(world)), fractions(says(other))
        wins = [sum(one[i] for i in lot) == sum(two[i] for i in lot) for lot in lots(world.size)]
        self.assertEqual(all(wins), lot is None)
        self.assertEqual(all(wins), all(wins[1 << i] for i in range(world.size)))
        self.same(same_winners(world, other), all(wins))
        self.same(flow_gap(world, other), None if lot is None else lot[0])
        return all(wins)

    def test_all_pairs(self):
        found = [
            self.check(one, other) for one in trial_webs() for other in trial_webs() if one.size == other.size
        ]
        self.assertIn(True, found)
        self.assertIn(False, found)

    def test_same(self):
        for world in trial_webs():
            for other in trial_webs():
                if world.size == other.size:
                    made = with_says_of(world, other)
                    self.assertTrue(self.check(world, made))
                    self.assertTrue(self.check(world, world + made))
                    self.assertTrue(self.check(made, world * 3 + made * 2))

    def test_plain(self):
        ring, turned = World(ring_takes(3)), World([[0, 0, 2], [2, 0, 0], [0, 2, 0]])
        self.assertIs(same_winners(ring, turned), True)
        self.assertIs(flow_gap(ring, turned), None)
        self.assertIs(same_winners(ring, World([[0, 1, 0], [0, 0, 1], [2, 0, 0]])), False)
        self.same(flow_gap(ring, World([[0, 1, 0], [0, 0, 1], [2, 0, 0]])), 0)
        # The place is told by the says of the first and the takes of the second world.
        self.same(flow_gap(ring, World([[0, 1, 0], [1, 0, 2], [0, 1, 0]])), 1)
        self.same(flow_gap(World([[0, 1, 0], [1, 0, 2], [0, 1, 0]]), ring), 0)
        self.same(flow_gap(World([[0, 2], [1, 0]]), World([[0, 4], [2, 0]])), None)
        self.assertEqual(Fraction(*said(World([[0, 4], [2, 0]]), [0])), Fraction(1, 3))


class Refused(Checks):
    def test_order(self):
        ring = World(ring_takes(3))
        for call in (same_winners, flow_gap):
            self.refused("OtherSize", 2, call, SHUT, World([[0, 0], [1, 0]]))
            self.refused("OtherSize", 3, call, World([[0, 0], [1, 0]]), CALLING)
            self.refused("NotLinked", (1, 2), call, SHUT, World([[0] * 3] * 3))
            self.refused("NotLinked", (1, 2), call, SHUT, CALLING)
            self.refused("HasCalls", (1, 2), call, CALLING, SHUT)
            self.refused("NotLinked", (1, 2), call, ring, SHUT)
            self.refused("HasCalls", (1, 2), call, ring, CALLING)
            six = World(ring_takes(6))
            self.refused("HasCalls", (5, 0), call, six, World(ring_takes(6), calls=[[0] * 6] * 5 + [[1] + [0] * 5]))


if __name__ == "__main__":
    unittest.main()
