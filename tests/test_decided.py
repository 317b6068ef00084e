"""Points 22 and 23: which lots are juries of decided rows of own marks."""

import unittest

from copyrates.decided import decided_row, gathered
from copyrates.runtables import Run
from copyrates.worlds import World, with_calls
from tests.kit import BIG, Checks, do, lots, own, path_web, ring_takes, some_linked, start, table

CALLS = (gathered, decided_row)


def one_call(takes, i, j):
    return World(takes, calls=table(len(takes), lambda a, b: 1 if (a, b) == (i, j) else 0))


def trial_worlds():
    found = []
    for size, zeros in ((2, 0), (3, 2), (4, 2), (5, 4)):
        found.extend(some_linked(size, 16, size, zeros=zeros))
        found.extend(some_linked(size, 4, size, zeros=zeros, calls=False))
    found.extend(some_linked(6, 2, 6, zeros=2))
    found.append(one_call(ring_takes(6), 5, 0))
    found.append(one_call(path_web([2, 0, 5, 1, 4, 3]), 5, 1))
    found.append(World(table(6, lambda i, j: BIG), calls=table(6, lambda i, j: BIG)))
    return found


def least_gathering(world, lot):
    """The least place of the lot from which calling ties inside it reach all of it."""
    for place in lot:
        seen = {place}
        for _ in lot:
            seen |= {j for i in seen for j in lot if world.calls[i][j] > 0}
        if len(seen) == len(lot):
            return place
    return None


def least_rows(world):
    """The least number of own marks of a decided row, for each jury, by trying all rows."""
    tables = {tuple((i,) for i in range(world.size))}
    seen = set(tables)
    found = {}
    many = 0
    while tables:
        for rows in tables:
            if len(set(rows)) == 1:
                found.setdefault(rows[0], many)
        further = set()
        for rows in tables:
            for i, j, word in own(world):
                joined = rows[j] if word == "take" else tuple(sorted({*rows[i], *rows[j]}))
                further.add(rows[:i] + (joined,) + rows[i + 1:])
        tables = further - seen
        seen |= tables
        many += 1
    return found


class Gathered(Checks):
    def test_least_place(self):
        seen = set()
        for world in trial_worlds():
            for lot in lots(world.size)[1:]:
                wanted = least_gathering(world, lot)
                self.same(gathered(world, lot), wanted)
                self.same(gathered(world, list(reversed(lot))), wanted)
                seen.add(None if wanted is None else lot.index(wanted))
        self.assertTrue(seen >= {None, 0, 1, 2})

    def test_one_place(self):
        for world in trial_worlds():
            for place in range(world.size):
                self.same(gathered(world, [place]), place)

    def test_only_ties_between_places_of_the_lot(self):
        takes = table(4, lambda i, j: 1)
        world = World(takes, calls=[[0, 1, 0, 0], [0, 0, 1, 0], [0, 0, 0, 0], [1, 0, 0, 0]])
        self.same(gathered(world, (0, 2)), None)
        self.same(gathered(world, (0, 1, 2)), 0)
        self.same(gathered(world, (0, 1, 2, 3)), 3)
        self.same(gathered(world, (1, 2)), 1)


class DecidedRows(Checks):
    def test_rows(self):
        for world in trial_worlds():
            for lot in lots(world.size)[1:]:
                row = self.told(decided_row(world, lot))
                if len(lot) > 1 and world.steady:
                    self.assertIsNone(row)
                    continue
                self.assertIs(type(row), tuple)
                self.assertTrue(set(row) <= set(own(world)))
                self.same(Run(world.size, row).jury, lot)
                for first in lots(world.size):
                    grade = int(bool(set(first) & set(lot)))
                    self.assertEqual(do(start(first, world.size), row), (grade,) * world.size)
                least = world.size + len(lot) - 2
                self.assertGreaterEqual(len(row), least)
                self.assertLessEqual(len(row), 400)
                if gathered(world, lot) is not None:
                    self.assertEqual(len(row), least)
                else:
                    self.assertGreater(len(row), least)

    def test_shortest_rows(self):
        for world in trial_worlds():
            if world.size > 3:
                continue
            least = least_rows(world)
            for lot in lots(world.size)[1:]:
                row = decided_row(world, lot)
                self.assertEqual(row is None, lot not in least)
                if row is not None:
                    self.assertGreaterEqual(len(row), least[lot])
                    just = least[lot] == world.size + len(lot) - 2
                    self.assertEqual(just, gathered(world, lot) is not None)

    def test_one_place_in_steady_worlds(self):
        for size in range(2, 7):
            for takes in (ring_takes(size), path_web(list(range(size)))):
                for place in range(size):
                    row = decided_row(World(takes), (place,))
                    self.assertEqual(len(row), size - 1)
                    self.same(Run(size, row).jury, (place,))

    def test_one_calling_tie_makes_every_lot_a_jury(self):
        for size in range(2, 7):
            for world in (one_call(ring_takes(size), 0, 1), one_call(path_web(list(range(size))), size - 1, size - 2)):
                for lot in lots(size)[1:]:
                    row = decided_row(world, lot)
                    self.same(Run(size, row).jury, lot)
                    self.assertTrue(set(row) <= set(own(world)))
                    self.assertLessEqual(len(row), 400)

    def test_lot_in_any_order(self):
        world = one_call(ring_takes(4), 0, 1)
        self.same(Run(4, decided_row(world, [3, 0, 2])).jury, (0, 2, 3))


class Refused(Checks):
    def test_not_linked_ahead_of_the_lot(self):
        world = World([[0, 1, 0], [0, 0, 1], [0, 1, 0]])
        for call in CALLS:
            for lot in (None, (), (7,), (0,)):
                self.refused("NotLinked", (1, 2), call, world, lot)

    def test_lot(self):
        for world in (World(ring_takes(3)), one_call(ring_takes(3), 0, 1)):
            for call in CALLS:
                for lot, place in ((None, None), (1, None), ((), None), ([], None), ((0, 3), 3), ([1, 1], 1),
                                   ([True], True), ((-1,), -1)):
                    self.refused("BadLot", place, call, world, lot)

    def test_arguments_stay(self):
        world = with_calls(World(ring_takes(3)), [[0, 1, 0], [0, 0, 0], [0, 0, 0]])
        lot = [2, 0]
        for call in CALLS:
            call(world, lot)
        self.assertEqual(lot, [2, 0])


if __name__ == "__main__":
    unittest.main()
