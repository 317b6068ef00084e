"""Points 5 and 6: ways, linked worlds, closed lots and heads."""

import unittest
from itertools import permutations

from copyrates.linking import heads, is_linked, reaches, shut_lot, way
from copyrates.worlds import World
from tests.kit import (
    NO_WHOLE, Checks, linked, lots, path_web, reach_of, ring_takes, some_worlds, table, webs,
)


def trial_worlds():
    found = list(webs(2)) + list(webs(3))
    for size, zeros in ((4, 3), (4, 6), (5, 5), (5, 9), (6, 6), (6, 12)):
        found.extend(some_worlds(size, 25, 10 * size + zeros, zeros=zeros))
    found.extend([World(ring_takes(6)), World(path_web([3, 5, 0, 1, 4, 2])), World(table(6, lambda i, j: 0))])
    return found


def closed_lots(world):
    """The closed lots, by the words of the point."""
    return [
        lot for lot in lots(world.size)
        if lot and not any(world.takes[i][j] for i in lot for j in range(world.size) if j not in lot)
    ]


class Linked(Checks):
    def test_linked(self):
        for world in trial_worlds():
            self.same(is_linked(world), linked(world))

    def test_shut_lot_is_the_least_closed_mixed_lot(self):
        for world in trial_worlds():
            mixed = [lot for lot in closed_lots(world) if len(lot) < world.size]
            self.same(shut_lot(world), mixed[0] if mixed else None)
            self.same(shut_lot(world) is None, linked(world))

    def test_calls_play_no_part(self):
        for world in some_worlds(4, 40, 9, zeros=4):
            web = World(world.takes)
            self.same(shut_lot(world), shut_lot(web))
            self.same(heads(world), heads(web))
            self.same(way(world, 0, 3), way(web, 0, 3))


class Ways(Checks):
    def least_way(self, world, start, goal):
        """The number of places of a least way, by trying all rows of places."""
        rest = [place for place in range(world.size) if place not in (start, goal)]
        if start == goal:
            return 1
        for many in range(len(rest) + 1):
            for between in permutations(rest, many):
                row = (start,) + between + (goal,)
                if all(world.takes[i][j] for i, j in zip(row, row[1:])):
                    return len(row)
        return None

    def test_ways(self):
        for world in trial_worlds()[::2]:
            for start in range(world.size):
                for goal in range(world.size):
                    row = self.told(way(world, start, goal))
                    least = self.least_way(world, start, goal)
                    if least is None:
                        self.assertIsNone(row)
                    else:
                        self.assertIs(type(row), tuple)
                        self.assertEqual(len(row), least)
                        self.assertEqual((row[0], row[-1]), (start, goal))
                        self.assertEqual(len(set(row)), len(row))
                        self.assertTrue(all(world.takes[i][j] for i, j in zip(row, row[1:])))

    def test_way_to_itself(self):
        self.same(way(World(table(2, lambda i, j: 0)), 1, 1), (1,))
        self.same(way(World(ring_takes(6)), 4, 4), (4,))
        self.same(way(World(ring_takes(6)), 4, 3), (4, 5, 0, 1, 2, 3))

    def test_reaches(self):
        for world in trial_worlds():
            for place in range(world.size):
                self.same(reaches(world, place), reach_of(world.takes, place))
                for goal in range(world.size):
                    self.same(way(world, place, goal) is None, goal not in reaches(world, place))

    def test_refused(self):
        world = World([[0, 1], [0, 0]])
        for place in NO_WHOLE + (-1, 2):
            self.refused("BadPlace", place, way, world, place, 0)
            self.refused("BadPlace", place, way, world, 0, place)
            self.refused("BadPlace", place, way, world, place, "no")
            self.refused("BadPlace", place, reaches, world, place)


class Heads(Checks):
    def test_heads(self):
        for world in trial_worlds():
            closed = closed_lots(world)
            least = [lot for lot in closed if not any(set(other) < set(lot) for other in closed)]
            self.same(heads(world), tuple(sorted(least)))

    def test_linked_world(self):
        for world in trial_worlds():
            if linked(world):
                self.same(heads(world), (tuple(range(world.size)),))

    def test_each_place_comes_to_a_head(self):
        for world in trial_worlds():
            found = heads(world)
            places = [place for lot in found for place in lot]
            self.assertEqual(len(places), len(set(places)))
            self.assertGreaterEqual(len(found), 1)
            for place in range(world.size):
                self.assertTrue(any(way(world, place, lot[0]) for lot in found))

    def test_no_ties(self):
        self.same(heads(World(table(6, lambda i, j: 0))), ((0,), (1,), (2,), (3,), (4,), (5,)))

    def test_order_of_least_places(self):
        takes = [[0] * 6 for _ in range(6)]
        for i, j in ((0, 5), (5, 0), (1, 4), (4, 1), (2, 0), (3, 2)):
            takes[i][j] = 1
        self.same(heads(World(takes)), ((0, 5), (1, 4)))
        self.same(shut_lot(World(takes)), (1, 4))


if __name__ == "__main__":
    unittest.main()
