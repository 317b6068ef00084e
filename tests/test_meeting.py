"""Points 46 to 49: two walks, when they meet, and where they stand till then."""

import unittest
from fractions import Fraction

from copyrates.meeting import apart, meeting_sum, meetings, visits
from copyrates.sayrows import says, squares
from copyrates.turnworth import turns
from copyrates.worlds import World
from tests.kit import BIG, Checks, fractions, lots, pair, path_web, rest, ring_takes, some_linked, table

SHUT = World([[0, 1, 0], [0, 0, 1], [0, 1, 0]], calls=[[0, 1, 0], [0, 0, 0], [0, 0, 0]])
CALLING = World([[0, 1, 1], [1, 0, 1], [1, 1, 0]], calls=[[0, 0, 0], [0, 0, 1], [1, 0, 0]])


def trial_webs(sizes=(2, 3, 4, 5)):
    found = []
    for size in sizes:
        found.extend(some_linked(size, 14, 23 * size, zeros=size - 1, calls=False)[:3])
        found.extend([World(ring_takes(size)), World(table(size, lambda i, j: BIG - 6 * i - j))])
    found.extend([World(path_web([1, 3, 0, 2])), World([[0, BIG], [1, 0]])])
    return [world for world in found if world.size in sizes]


def unlike(world):
    return [(j, i) for j in range(world.size) for i in range(world.size) if i != j]


def drift(world, worth, j, i):
    """The sum over all takes of the walks at j and i of what they change the worth by; at one place it is 0."""
    t, total = world.takes, 0
    for k in range(world.size):
        total += t[j][k] * ((worth[k][i] if k != i else 0) - worth[j][i])
        total += t[i][k] * ((worth[j][k] if k != j else 0) - worth[j][i])
    return total


class Tables(Checks):
    def worths(self, rows, size):
        """The table as Fractions; its form and its diagonal are checked."""
        self.assertEqual((len(rows), [len(row) for row in rows]), (size, [size] * size))
        self.assertEqual([rows[i][i] for i in range(size)], [(0, 1)] * size)
        return [[self.fraction(entry) for entry in row] for row in self.told(rows)]


class Meetings(Tables):
    def test_equations(self):
        for world in trial_webs():
            m = self.worths(meetings(world), world.size)
            for i, j in unlike(world):
                self.assertEqual(drift(world, m, i, j), -world.total)
                self.assertEqual(m[i][j], m[j][i])
                self.assertGreater(m[i][j], 0)

    def test_sum(self):
        for world in trial_webs():
            m, worth = [fractions(row) for row in meetings(world)], fractions(says(world))
            total = sum(2 * worth[i] ** 2 * world.takes[i][j] * m[i][j] / world.total for i, j in world.ties())
            self.same(meeting_sum(world), pair(total))
            self.same(meeting_sum(world), pair(1 - Fraction(*squares(world, list(range(world.size))))))

    def test_plain(self):
        two = World([[0, 1], [2, 0]])
        self.same(meetings(two), (((0, 1), (1, 1)), ((1, 1), (0, 1))))
        self.same(meeting_sum(two), (4, 9))
        self.same(meetings(World(ring_takes(3)))[0], ((0, 1), (3, 1), (3, 1)))


class Apart(Tables):
    def test_equations(self):
        for world in trial_webs():
            for lot in lots(world.size):
                worth = self.worths(apart(world, lot), world.size)
                for j, i in unlike(world):
                    wanted = -world.total if j in lot and i not in lot else 0
                    self.assertEqual(drift(world, worth, j, i), wanted)

    def test_singles_sum_to_meetings(self):
        for world in trial_webs():
            m = [fractions(row) for row in meetings(world)]
            parts = [[fractions(row) for row in apart(world, [p])] for p in range(world.size)]
            for j, i in unlike(world):
                self.assertEqual(sum(part[j][i] for part in parts), m[i][j])

    def test_rest_is_turned(self):
        for world in trial_webs():
            for lot in lots(world.size)[:: world.size - 1]:
                one, other = apart(world, lot), apart(world, rest(lot, world.size))
                self.same(one, tuple(zip(*other)))

    def test_turns(self):
        for world in trial_webs((2, 3, 4)):
            worth = fractions(says(world))
            for lot in lots(world.size):
                rows = [fractions(row) for row in apart(world, lot)]
                up = sum(worth[i] ** 2 * world.takes[i][j] * rows[j][i] for i, j in world.ties()) / world.total
                down = sum(worth[i] ** 2 * world.takes[i][j] * rows[i][j] for i, j in world.ties()) / world.total
                self.same((pair(up), pair(down)), turns(world, lot))

    def test_ends_and_order(self):
        for world in trial_webs():
            none = (((0, 1),) * world.size,) * world.size
            self.same(apart(world, ()), none)
            self.same(apart(world, list(range(world.size))[::-1]), none)
        world = trial_webs((4,))[0]
        self.same(apart(world, [3, 1]), apart(world, (1, 3)))

    def test_plain(self):
        two = World([[0, 1], [2, 0]])
        self.same(apart(two, [0]), (((0, 1), (1, 1)), ((0, 1), (0, 1))))
        self.same(apart(two, [1]), (((0, 1), (0, 1)), ((1, 1), (0, 1))))


class Visits(Tables):
    def told_visits(self, world):
        return {first: self.worths(visits(world, first), world.size) for first in unlike(world)}

    def test_equations(self):
        for world in trial_webs():
            found = self.told_visits(world)
            for p, u in unlike(world):
                worth = [[found[(j, i)][p][u] if i != j else 0 for i in range(world.size)] for j in range(world.size)]
                for j, i in unlike(world):
                    self.assertEqual(drift(world, worth, j, i), -world.total if (j, i) == (p, u) else 0)

    def test_apart_is_a_sum(self):
        for world in trial_webs():
            found = self.told_visits(world)
            for lot in lots(world.size)[:: world.size - 1]:
                rows = [fractions(row) for row in apart(world, lot)]
                for first, worth in found.items():
                    total = sum(worth[p][u] for p in lot for u in rest(lot, world.size))
                    self.assertEqual(total, rows[first[0]][first[1]])

    def test_plain(self):
        two = World([[0, 1], [2, 0]])
        self.same(visits(two, [1, 0]), (((0, 1), (0, 1)), ((1, 1), (0, 1))))
        ring = World(ring_takes(3))
        # The pairs go round: (0, 1), (0, 2), (1, 2), (1, 0), (2, 0), (2, 1), each half as often as the one ahead of it.
        rows = (((0, 1), (32, 21), (16, 21)), ((4, 21), (0, 1), (8, 21)), ((2, 21), (1, 21), (0, 1)))
        self.same(visits(ring, [0, 1]), rows)
        self.same(visits(ring, (1, 0))[1], ((32, 21), (0, 1), (1, 21)))

    def test_pair_stays(self):
        first = [2, 0]
        self.same(visits(World(ring_takes(3)), first), visits(World(ring_takes(3)), (2, 0)))
        self.assertEqual(first, [2, 0])


class Refused(Checks):
    def test_world_first(self):
        calls = (meetings, meeting_sum, lambda world: apart(world, None), lambda world: visits(world, None))
        for call in calls:
            for world in (World(ring_takes(6)), World([[0] * 6] * 6), World(ring_takes(6), calls=ring_takes(6))):
                self.refused("TooMany", 6, call, world)
            self.refused("NotLinked", (1, 2), call, SHUT)
            self.refused("HasCalls", (1, 2), call, CALLING)
            self.refused("HasCalls", (1, 0), call, World([[0, 1], [1, 0]], calls=[[0, 0], [1, 0]]))

    def test_lot(self):
        for lot, place in ((None, None), (1, None), ("01", None), ((0, 3), 3), ([1, 1], 1), ((True,), True), ((-1,), -1)):
            self.refused("BadLot", place, apart, World(ring_takes(3)), lot)

    def test_pair(self):
        for wrong in (None, 3, "01", (), (0,), (0, 1, 2), {0: 1, 1: 0}):
            self.refused("BadPlace", None, visits, World(ring_takes(3)), wrong)
        for wrong, place in (((3, 0), 3), ((0, 3), 3), ((-1, 7), -1), ([1, 1], 1), ((True, 0), True), ((0, None), None)):
            self.refused("BadPlace", place, visits, World(ring_takes(3)), wrong)

    def test_lot_stays(self):
        lot = [2, 0]
        apart(World(ring_takes(3)), lot)
        self.assertEqual(lot, [2, 0])


if __name__ == "__main__":
    unittest.main()
