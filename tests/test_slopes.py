"""Points 50 to 54: slopes and parts."""

import unittest
from fractions import Fraction
from math import lcm

from copyrates.exchange import pairs_from
from copyrates.meeting import apart, meetings, visits
from copyrates.sayrows import flow, says, squares
from copyrates.shapes import line
from copyrates.slopes import Slopes
from copyrates.turnworth import turns
from copyrates.worlds import World, web_of, with_calls
from tests.kit import (
    BIG, Checks, fractions, lots, number_of_places, pair, path_web, rest, ring_takes, some_linked, table, wins_by_run
)

SHUT = World([[0, 1, 0], [0, 0, 1], [0, 1, 0]], calls=[[0, 1, 0], [0, 0, 0], [0, 0, 0]])


def path_worlds():
    """Lines with calls in one direction, and in both."""
    order = [2, 0, 3, 1]
    web = path_web(order, lambda i, j: 1 + (3 * i + j) % 4)
    rows = []
    for chosen in ([(2, 0)], [(3, 0)], [(2, 0), (3, 1)], [(2, 0), (1, 3)], [(0, 2), (1, 3)]):
        rows.append(World(web, calls=table(4, lambda i, j: 2 if (i, j) in chosen else 0)))
    return rows


def trial_worlds(sizes=(2, 3, 4, 5)):
    found = path_worlds()
    for size in sizes:
        found.extend(some_linked(size, 14, 29 * size, zeros=size - 1)[:3])
        found.append(World(ring_takes(size)))
        found.append(World(ring_takes(size), calls=table(size, lambda i, j: 5 if (i, j) == (size - 1, 0) else 0)))
        found.append(World(table(size, lambda i, j: BIG - 6 * i - j), calls=table(size, lambda i, j: BIG if i < j else 1)))
    found.append(World([[0, BIG], [1, 0]], calls=[[0, 3], [0, 0]]))
    return [world for world in found if world.size in sizes]


def unlike(size):
    return [(j, i) for j in range(size) for i in range(size) if i != j]


def takes_total(world):
    return sum(map(sum, world.takes))


def win_near(world, bottom):
    """win of all lots, as Fractions, with the calls divided by the bottom."""
    return wins_by_run(with_calls(web_of(world) * bottom, world.calls)).values()


class SlopeTable(Checks):
    def test_definition(self):
        for world in trial_worlds((2, 3, 4)):
            slopes, worth = Slopes(world), fractions(says(world))
            for lot in lots(world.size):
                rows = [fractions(row) for row in apart(web_of(world), lot)]
                wanted = sum(worth[i] * world.calls[i][j] * rows[j][i] for i, j in world.calling())
                wanted = pair(Fraction(wanted) / takes_total(world))
                self.same(slopes.slope(lot), wanted)
                self.same(slopes.slope(list(lot)[::-1]), wanted)
                self.same(slopes.table[number_of_places(lot)], wanted)

    def test_small_calls(self):
        for world in path_worlds() + some_linked(3, 9, 5)[:4]:
            worth, bottom = fractions(says(world)), 10 ** 6
            for lot, win, slope in zip(lots(world.size), win_near(world, bottom), fractions(Slopes(world).table)):
                gap = (win - sum(worth[i] for i in lot)) * bottom - slope
                self.assertLess(abs(gap), Fraction(1, 10 ** 3))

    def test_one_step_sums(self):
        for world in trial_worlds():
            row, worth = fractions(Slopes(world).table), fractions(says(world))
            self.assertEqual((row[0], row[-1], len(row)), (0, 0, 1 << world.size))
            for number in range(1, (1 << world.size) - 1):
                total = Fraction(0)
                for i, j in world.ties():
                    held, copied = number >> i & 1, number >> j & 1
                    if held != copied:
                        total += world.takes[i][j] * (row[number ^ 1 << i] - row[number])
                    if held < copied:
                        total += world.calls[i][j] * worth[i]
                self.assertEqual(total, 0)

    def test_ties(self):
        for world in trial_worlds((2, 3, 4)):
            slopes, worth = Slopes(world), fractions(says(world))
            for lot in lots(world.size):
                rows = [fractions(row) for row in apart(web_of(world), lot)]
                total = Fraction(0)
                for i, j in world.ties():
                    wanted = worth[i] * rows[j][i] / takes_total(world)
                    self.same(slopes.of_tie((i, j), lot), pair(wanted))
                    self.same(slopes.of_tie([i, j], list(lot)[::-1]), pair(wanted))
                    total += world.calls[i][j] * wanted
                self.same(slopes.slope(lot), pair(total))

    def test_singles(self):
        for world in trial_worlds():
            slopes, worth = Slopes(world), fractions(says(world))
            found = self.told(slopes.singles())
            self.same(found, tuple(slopes.table[1 << i] for i in range(world.size)))
            m = [fractions(row) for row in meetings(web_of(world))]
            total = sum(worth[i] * world.calls[i][j] * m[i][j] for i, j in world.calling())
            self.assertEqual(sum(fractions(found)), Fraction(total) / takes_total(world))

    def test_calls_like_the_flow(self):
        for web in [web_of(world) for world in trial_worlds((2, 3, 4))]:
            e = [fractions(row) for row in flow(web)]
            for q in (Fraction(1), Fraction(5, 3)):
                exact = [[q * entry for entry in row] for row in e]
                bottom = lcm(*[entry.denominator for row in exact for entry in row])
                calls = [[int(entry * bottom) for entry in row] for row in exact]
                slopes = Slopes(with_calls(web * bottom, calls))
                for lot in lots(web.size):
                    self.assertEqual(Fraction(*slopes.slope(lot)), q * Fraction(*turns(web, lot)[0]))
                every = Fraction(*squares(web, list(range(web.size))))
                self.assertEqual(sum(fractions(slopes.singles())), q * (1 - every) / 2)

    def test_between(self):
        for world in trial_worlds((2, 3, 4)):
            e, slopes = [fractions(row) for row in flow(world)], Slopes(world)
            ratios = [world.calls[i][j] / e[i][j] for i, j in world.ties()]
            for lot in lots(world.size):
                up = Fraction(*turns(web_of(world), lot)[0])
                self.assertLessEqual(min(ratios) * up, Fraction(*slopes.slope(lot)))
                self.assertLessEqual(Fraction(*slopes.slope(lot)), max(ratios) * up)


class Parts(Checks):
    def test_definition(self):
        for world in trial_worlds((2, 3, 4)):
            slopes, worth = Slopes(world), fractions(says(world))
            found = {first: visits(web_of(world), first) for first in unlike(world.size)}
            for p, u in unlike(world.size):
                total = sum(worth[i] * world.calls[i][j] * Fraction(*found[(j, i)][p][u]) for i, j in world.calling())
                self.same(slopes.part(p, u), pair(Fraction(total) / takes_total(world)))

    def test_slopes_are_sums_of_parts(self):
        for world in trial_worlds():
            slopes = Slopes(world)
            parts = {two: self.fraction(slopes.part(*two)) for two in unlike(world.size)}
            for lot in lots(world.size):
                total = sum(parts[(p, u)] for p in lot for u in rest(lot, world.size))
                self.same(slopes.slope(lot), pair(total))
            for p, u in parts:
                both = Fraction(*slopes.slope([p])) + Fraction(*slopes.slope([u])) - Fraction(*slopes.slope([p, u]))
                self.assertEqual(parts[(p, u)] + parts[(u, p)], both)
                self.assertEqual(both > 0, not world.steady)

    def test_signs(self):
        found = []
        for world in trial_worlds():
            slopes, web = Slopes(world), web_of(world)
            reached = {two for i, j in world.calling() for two in pairs_from(web, (j, i))}
            for p, u in unlike(world.size):
                part = Fraction(*slopes.part(p, u))
                self.assertGreaterEqual(part, 0)
                self.assertEqual(part > 0, (p, u) in reached)
            if not world.steady:
                order = line(world)
                ways = {order.index(i) < order.index(j) for i, j in world.calling()} if order else {True, False}
                self.assertEqual(len(ways) == 2, len(reached) == world.size * (world.size - 1))
                found.append(len(ways) == 2)
        self.assertEqual(set(found), {True, False})

    def test_lots_that_cross(self):
        for world in trial_worlds((3, 4)):
            row, some = fractions(Slopes(world).table), False
            for a in range(1 << world.size):
                for b in range(1 << world.size):
                    if a & b not in (a, b):
                        some = True
                        self.assertEqual(row[a] + row[b] > row[a | b] + row[a & b], not world.steady)
            self.assertTrue(some)

    def test_pairs_and_singles(self):
        for world in trial_worlds():
            slopes = Slopes(world)
            for lot in lots(world.size)[1:]:
                pairs = sum(Fraction(*slopes.slope((p, u))) for p in lot for u in lot if p < u)
                ones = sum(Fraction(*slopes.slope((p,))) for p in lot)
                self.same(slopes.slope(lot), pair(pairs - (len(lot) - 2) * ones))


class Objects(Checks):
    def test_attributes(self):
        world = World([[0, 1, 0], [1, 0, 1], [0, 1, 0]], calls=[[0, 1, 0], [0, 0, 0], [0, 0, 0]])
        slopes = Slopes(world)
        self.assertIs(slopes.world, world)
        self.assertEqual(slopes.size, 3)
        self.told(slopes.table)
        self.same(slopes.singles(), ((0, 1), (5, 36), (1, 9)))
        self.same(slopes.part(0, 1), (0, 1))
        self.same(slopes.of_tie((1, 2), (2,)), Slopes(with_calls(world, [[0, 0, 0], [0, 0, 1], [0, 0, 0]])).slope((2,)))

    def test_arguments_stay(self):
        tie, lot = [0, 1], [2, 1]
        slopes = Slopes(World(ring_takes(3)))
        first = (slopes.table, slopes.of_tie(tie, lot), slopes.slope(lot))
        self.assertEqual((tie, lot), ([0, 1], [2, 1]))
        self.assertEqual(first, (slopes.table, slopes.of_tie(tie, lot), slopes.slope(lot)))

    def test_refused(self):
        for world in (World([[0] * 6] * 6), World(ring_takes(6))):
            self.refused("TooMany", 6, Slopes, world)
        self.refused("NotLinked", (1, 2), Slopes, SHUT)
        slopes = Slopes(World(ring_takes(3)))
        for lot, place in ((None, None), (1, None), ((0, 3), 3), ([1, 1], 1), ((True,), True)):
            self.refused("BadLot", place, slopes.slope, lot)
            self.refused("BadLot", place, slopes.of_tie, (0, 1), lot)
        for tie in (None, 3, (), (0,), (0, 1, 2), (1, 0), [0, 2], (0, 0), (True, 2), (0, 3), (-3, 1), ("0", 1), [[0], 1]):
            self.refused("BadTie", tie, slopes.of_tie, tie, None)
        for wrong in (-1, 3, True, None, "0"):
            self.refused("BadPlace", wrong, slopes.part, wrong, 9)
            self.refused("BadPlace", wrong, slopes.part, 0, wrong)
        self.refused("BadPlace", 2, slopes.part, 2, 2)


if __name__ == "__main__":
    unittest.main()
