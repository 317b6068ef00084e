"""Points 65 and 80: differences of win, and of any row by lots."""

import unittest
from fractions import Fraction

from copyrates.juries import Jury
from copyrates.signs import difference, from_row
from copyrates.wins import win_row
from copyrates.worlds import World
from tests.kit import Checks, crossing, difference_of, fractions, lots, number_of_places, pair, rest, ring_takes, within
from tests.test_wins import linked_worlds, one_head_worlds

TWO = World([[0, 1], [2, 0]], calls=[[0, 0], [1, 0]])
NO_FRACTION = (True, None, "1", 1.5, (1,), (1, 0), (1, -1), (1, 2, 3), [1, True], (0.5, 1))


class Differences(Checks):
    def test_drawn_juries(self):
        for world in linked_worlds() + one_head_worlds():
            row, nu = fractions(win_row(world)), {lot: Fraction(*chance) for lot, chance in Jury(world)}
            for extra in lots(world.size)[1 :: 1 if world.size < 5 else 6]:
                for base in within(rest(extra, world.size)):
                    wanted = difference_of(lambda lot: row[number_of_places(lot)], base, extra)
                    some = [c for lot, c in nu.items() if set(extra) <= set(lot) and not set(base) & set(lot)]
                    self.assertEqual(wanted, sum(some))
                    if world.size < 4 or not base:
                        self.same(difference(world, list(base)[::-1], list(extra)[::-1]), pair(wanted))

    def test_signs(self):
        for world in linked_worlds((2, 3, 4)):
            for extra in lots(world.size)[1:]:
                for base in within(rest(extra, world.size)):
                    worth = Fraction(*difference(world, base, extra))
                    if world.steady and len(extra) > 1:
                        self.assertEqual(worth, 0)
                    else:
                        self.assertGreater(worth, 0)

    def test_chance_of_a_jury(self):
        for world in linked_worlds((2, 3, 4)) + one_head_worlds()[:9]:
            jury = Jury(world)
            for lot in lots(world.size)[1:]:
                self.same(difference(world, rest(lot, world.size), lot), jury.chance(lot))

    def test_one_place_more(self):
        for world in linked_worlds((2, 3, 4)):
            row = fractions(win_row(world))
            for i in range(world.size):
                for base in within(rest((i,), world.size)):
                    gap = row[number_of_places(base) | 1 << i] - row[number_of_places(base)]
                    self.same(difference(world, base, [i]), pair(gap))
                    for less in within(base):
                        other = row[number_of_places(less) | 1 << i] - row[number_of_places(less)]
                        self.assertEqual(gap < other, not world.steady and less != base)
                        self.assertLessEqual(gap, other)

    def test_lots_that_cross(self):
        for world in linked_worlds((2, 3, 4, 5)):
            row = fractions(win_row(world))
            for one in lots(world.size):
                for other in lots(world.size):
                    if crossing(one, other):
                        a, b = number_of_places(one), number_of_places(other)
                        gap = row[a] + row[b] - row[a | b] - row[a & b]
                        self.assertTrue(gap == 0 if world.steady else gap > 0)


class FromRow(Checks):
    def rows(self, size):
        whole = 10 ** 99
        yield [(k * k - 3, k + 1) for k in range(1 << size)]
        yield [-k for k in range(1 << size)]
        yield [[2 * k + 1, 4] for k in range(1 << size)]
        yield tuple((whole + k, whole - k) for k in range(1 << size))

    def test_differences(self):
        for size in (2, 3, 4, 5):
            for row in self.rows(size):
                worth = [Fraction(*entry) if isinstance(entry, (tuple, list)) else Fraction(entry) for entry in row]
                wanted = [(0, 1)] + [
                    pair(difference_of(lambda lot: worth[number_of_places(lot)], rest(extra, size), extra))
                    for extra in lots(size)[1:]
                ]
                self.same(self.told(from_row(row)), tuple(wanted))

    def test_win_row_gives_the_jury(self):
        for world in linked_worlds() + one_head_worlds():
            self.same(from_row(win_row(world)), Jury(world).chances)
            self.same(from_row(list(map(list, win_row(world)))), Jury(world).chances)

    def test_plain(self):
        self.same(from_row([7, 1, 1, 1]), ((0, 1), (0, 1), (0, 1), (-6, 1)))
        self.same(from_row([0, (3, 4), (1, 3), 1]), ((0, 1), (2, 3), (1, 4), (1, 12)))

    def test_refused(self):
        for row in (None, 3, "0000", (), [0], [0, 1], [0] * 3, [0] * 5, (0,) * 16 + (1,), [0] * 64, {0: 0, 1: 1, 2: 2, 3: 3}):
            self.refused("BadFraction", "row", from_row, row)
        for entry in NO_FRACTION:
            self.refused("BadFraction", "row", from_row, [0, 1, 1, entry])
            self.refused("BadFraction", "row", from_row, [entry] + [1] * 31)

    def test_row_stays(self):
        row = [0, [6, 8], (1, 3), 1]
        from_row(row)
        self.assertEqual(row, [0, [6, 8], (1, 3), 1])


class Refused(Checks):
    def test_world_first(self):
        for world in (World([[0] * 6] * 6), World(ring_takes(6))):
            self.refused("TooMany", 6, difference, world, None, None)
        self.refused("ManyHeads", 3, difference, World([[0] * 3] * 3), None, None)

    def test_lots(self):
        ring = World(ring_takes(3))
        for lot, place in ((None, None), (1, None), ((0, 3), 3), ([1, 1], 1), ((True,), True)):
            self.refused("BadLot", place, difference, ring, lot, None)
            self.refused("BadLot", place, difference, ring, (0,), lot)
        self.refused("BadLot", None, difference, ring, (0, 1, 2), ())
        self.refused("BadLot", 1, difference, ring, (2, 1), [2, 1])
        self.refused("BadLot", 0, difference, ring, [1, 0], (0,))

    def test_lots_stay(self):
        base, extra = [2], [1, 0]
        self.same(difference(World(ring_takes(3)), base, extra), (0, 1))
        self.assertEqual((base, extra), ([2], [1, 0]))


if __name__ == "__main__":
    unittest.main()
