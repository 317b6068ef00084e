"""Points 3 and 4: worlds, and the closed lots of point 5."""

import unittest

from copyrates.worlds import World, closed_lot, web_of, with_calls
from tests.kit import BIG, NO_WHOLE, Checks, lots, some_worlds, table, webs

ONE = [[0, 1], [2, 0]]
SIX = table(6, lambda i, j: 6 * i + j)


class Tables(Checks):
    def test_attributes(self):
        world = World([[0, 3, 0], (1, 0, BIG), [0, 0, 0]], calls=([0, 5, 0], [0, 0, BIG], (0, 0, 0)))
        self.same(world.size, 3)
        self.same(world.takes, ((0, 3, 0), (1, 0, BIG), (0, 0, 0)))
        self.same(world.calls, ((0, 5, 0), (0, 0, BIG), (0, 0, 0)))

    def test_no_calls_are_zeros(self):
        for world in (World(ONE), World(ONE, calls=None), World.steady_of(ONE), World(ONE, calls=[[0, 0], [0, 0]])):
            self.same(world.calls, ((0, 0), (0, 0)))
            self.same(world.takes, ((0, 1), (2, 0)))
        self.same(World.steady_of(SIX).calls, ((0,) * 6,) * 6)

    def test_sizes(self):
        for size in (2, 3, 4, 5, 6):
            world = World(table(size, lambda i, j: 1))
            self.same(world.size, size)
            self.same(World.steady_of(table(size, lambda i, j: 0)).size, size)

    def test_calls_are_passed_by_keyword(self):
        with self.assertRaises(TypeError):
            World(ONE, [[0, 0], [0, 0]])

    def test_copies(self):
        takes = [[0, 1], [2, 0]]
        calls = [[0, 3], [0, 0]]
        world = World(takes, calls=calls)
        steady = World.steady_of(takes)
        self.assertEqual((takes, calls), ([[0, 1], [2, 0]], [[0, 3], [0, 0]]))
        takes[0][1] = 9
        calls[0][1] = 9
        takes.append([1])
        self.same(world.takes, ((0, 1), (2, 0)))
        self.same(world.calls, ((0, 3), (0, 0)))
        self.same(steady.takes, ((0, 1), (2, 0)))

    def test_no_function_changes_a_world(self):
        world = World(SIX, calls=SIX)
        for _ in range(2):
            (world + world, world * 3, web_of(world), with_calls(world, None), closed_lot(world, [0]), world.ties())
            self.assertEqual(world.takes, tuple(map(tuple, SIX)))
            self.assertEqual(world.calls, tuple(map(tuple, SIX)))


class RefusedTables(Checks):
    makers = (World, World.steady_of, lambda takes: World(takes, calls="no"))

    def test_takes_as_a_whole(self):
        many = [table(size, lambda i, j: 1) for size in (0, 1, 7, 8)]
        for make in self.makers:
            for takes in [None, 3, "ab", {0: [0, 1], 1: [1, 0]}, True] + many:
                self.refused("BadTable", -1, make, takes)

    def test_first_wrong_row_of_takes(self):
        bad_rows = [None, 5, "010", {0: 1, 1: 0, 2: 0}, [0, 0], [0, 0, 0, 0], [1, 1, 0], [0, 0, -1], [0, 0, True],
                    [0, False, 0], [None, 0, 1], [0, 0, 1.0], [0, 0, (1, 1)]]
        for make in self.makers:
            for row in bad_rows:
                self.refused("BadTable", 1, make, [[0, 1, 1], row, [1, 1, 0]])
                self.refused("BadTable", 1, make, ([0, 1, 1], row, "no"))
            self.refused("BadTable", 0, make, [[1, 0], [0, 0]])
            self.refused("BadTable", 1, make, [[0, 0], [0, 1]])
            self.refused("BadTable", 0, make, [[0, -1], [-1, 0]])
            self.refused("BadTable", 5, make, table(6, lambda i, j: 1)[:5] + [[1] * 6])

    def test_calls_as_a_whole(self):
        for calls in (3, "ab", True, False, 0, (), [], [[0, 0]], [[0, 0]] * 3, {0: [0, 0], 1: [0, 0]}):
            self.refused("BadTable", -1, World, ONE, calls=calls)
            self.refused("BadTable", -1, with_calls, World(ONE), calls)

    def test_first_wrong_row_of_calls(self):
        takes = [[0, 1, 0], [1, 0, 1], [0, 5, 0]]
        for row in (None, 5, "010", [0, 0], [0] * 4, [0, 1, 0], [-1, 0, 0], [True, 0, 0], [None, 0, 0], [0, 0, 1.0]):
            self.refused("BadTable", 1, World, takes, calls=[[0, 1, 0], row, [0, 0, 0]])
            self.refused("BadTable", 1, with_calls, World(takes), ([0, 1, 0], row, None))
        self.refused("BadTable", 0, World, takes, calls=[[0, 1, 1], [0, 0, 0], [9, 0, 0]])
        self.refused("BadTable", 2, World, takes, calls=[[0, 1, 0], [0, 0, 1], [9, 0, 0]])
        self.refused("BadTable", 2, World, takes, calls=[[0, 1, 0], [0, 0, 1], [0, 0, 1]])

    def test_takes_are_checked_first(self):
        self.refused("BadTable", 1, World, [[0, 1], [1, 1]], calls=[[1, 0], [0, 0]])
        self.refused("BadTable", -1, World, None, calls=[[1, 0], [0, 0]])


class Rates(Checks):
    def test_rates_and_ties(self):
        for size in (2, 3, 6):
            for world in some_worlds(size, 30, size):
                pairs = [(i, j) for i in range(size) for j in range(size)]
                for i, j in pairs:
                    self.same(world.rate(i, j), world.takes[i][j] + world.calls[i][j])
                self.same(world.ties(), tuple((i, j) for i, j in pairs if world.takes[i][j] > 0))
                self.same(world.calling(), tuple((i, j) for i, j in pairs if world.calls[i][j] > 0))
                self.same(world.total, sum(world.rate(i, j) for i, j in pairs))
                self.same(world.steady, not any(map(any, world.calls)))

    def test_plain_numbers(self):
        world = World([[0, 4, 0], [BIG, 0, 1], [0, 0, 0]], calls=[[0, 0, 0], [BIG, 0, 0], [0, 0, 0]])
        self.same(world.rate(1, 0), 2 * BIG)
        self.same(world.rate(0, 1), 4)
        self.same(world.rate(2, 2), 0)
        self.same(world.total, 2 * BIG + 5)
        self.same(world.ties(), ((0, 1), (1, 0), (1, 2)))
        self.same(world.calling(), ((1, 0),))
        self.same(world.steady, False)
        self.same(web_of(world).steady, True)
        self.same(World(table(2, lambda i, j: 0)).ties(), ())
        self.same(World(table(2, lambda i, j: 0)).total, 0)
        self.same(World(table(2, lambda i, j: 0)).steady, True)

    def test_refused_places(self):
        world = World(ONE)
        for place in NO_WHOLE + (-1, 2):
            self.refused("BadPlace", place, world.rate, place, 0)
            self.refused("BadPlace", place, world.rate, 1, place)
            self.refused("BadPlace", place, world.rate, place, None)


class Sums(Checks):
    def test_sum(self):
        for size in (2, 4, 6):
            worlds = list(some_worlds(size, 6, size))
            for one, other in zip(worlds, worlds[1:]):
                both = one + other
                self.assertIs(type(both), World)
                for i in range(size):
                    for j in range(size):
                        self.same(both.takes[i][j], one.takes[i][j] + other.takes[i][j])
                        self.same(both.calls[i][j], one.calls[i][j] + other.calls[i][j])
                self.told(both.takes)
                self.told(both.calls)

    def test_other_size(self):
        small, great = World(ONE), World(SIX)
        self.refused("OtherSize", 6, lambda: small + great)
        self.refused("OtherSize", 2, lambda: great + small)

    def test_times(self):
        for world in some_worlds(4, 5, 4):
            for k in (1, 2, 7, BIG):
                times = world * k
                self.assertIs(type(times), World)
                self.same(times.takes, tuple(tuple(k * entry for entry in row) for row in world.takes))
                self.same(times.calls, tuple(tuple(k * entry for entry in row) for row in world.calls))

    def test_refused_factor(self):
        for k in NO_WHOLE + (0, -1):
            self.refused("BadNumber", "k", lambda: World(ONE) * k)

    def test_equal(self):
        world = World(ONE, calls=[[0, 0], [1, 0]])
        self.assertIs(world == World([(0, 1), [2, 0]], calls=([0, 0], (1, 0))), True)
        self.assertIs(World(ONE) == World.steady_of(ONE), True)
        self.assertIs(world + world == world * 2, True)
        for other in (World(ONE), world * 2, World([[0, 1], [3, 0]], calls=[[0, 0], [1, 0]]), World(SIX), None, 0,
                      (world.takes, world.calls), "world"):
            self.assertIs(world == other, False)
            self.assertIs(world != other, True)
        self.assertIs(World(table(2, lambda i, j: 1)) == World(table(3, lambda i, j: 1)), False)

    def test_no_order_and_no_length(self):
        for call in (lambda w: w < w, lambda w: w <= w, lambda w: w > w, lambda w: w >= w, len):
            with self.assertRaises(TypeError):
                call(World(ONE))


class Webs(Checks):
    def test_web(self):
        for world in some_worlds(3, 20, 3):
            self.assertIs(type(web_of(world)), World)
            self.assertEqual(web_of(world), World(world.takes))
            self.assertEqual(web_of(world).calls, ((0,) * 3,) * 3)

    def test_with_calls(self):
        world = World(ONE, calls=[[0, 0], [1, 0]])
        self.assertEqual(with_calls(world, [[0, 7], (0, 0)]), World(ONE, calls=[[0, 7], [0, 0]]))
        self.assertEqual(with_calls(world, None), World(ONE))
        self.assertIs(type(with_calls(world, None)), World)
        calls = [[0, 2], [0, 0]]
        made = with_calls(world, calls)
        calls[0][1] = 5
        self.assertEqual(made.calls, ((0, 2), (0, 0)))


class Closed(Checks):
    def test_closed_lots(self):
        worlds = list(webs(2)) + list(webs(3)) + list(some_worlds(5, 20, 5, zeros=6)) + list(some_worlds(6, 5, 6))
        for world in worlds:
            for lot in lots(world.size):
                out = [(i, j) for i, j in world.ties() if i in lot and j not in lot]
                self.same(closed_lot(world, lot), lot != () and not out)
                self.same(closed_lot(world, list(reversed(lot))), lot != () and not out)

    def test_ends(self):
        for world in webs(3):
            self.same(closed_lot(world, ()), False)
            self.same(closed_lot(world, [2, 1, 0]), True)

    def test_refused(self):
        world = World(ONE)
        self.refused("BadLot", None, closed_lot, world, 1)
        self.refused("BadLot", 2, closed_lot, world, [0, 2])
        self.refused("BadLot", 1, closed_lot, world, [1, 1])
        self.refused("BadLot", True, closed_lot, world, [True])


if __name__ == "__main__":
    unittest.main()
