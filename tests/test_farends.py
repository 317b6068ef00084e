"""Points 113 to 115: what one factor comes to as it grows, and near 1."""

import unittest
from fractions import Fraction
from math import prod
from time import perf_counter

from copyrates.even import is_even
from copyrates.farends import strong_end, verdict_near_one, weak_end
from copyrates.meeting import meetings
from copyrates.onefactor import paces, win_at
from copyrates.slopes import Slopes
from copyrates.worlds import World, web_of, with_calls
from tests.kit import BIG, Checks, fractions, lots, number_of_places, pair, rest, ring_takes, table
from tests.oddkit import SHUT, SIX_SHUT, calling_worlds, odd_webs, say_row
from tests.test_onefactor import STAR, paced_webs

SIZES = (2, 3, 4, 5)
TRIANGLE = World(ring_takes(3))


def webs():
    found = odd_webs(SIZES) + [web for web, near, p in paced_webs(SIZES)] + [STAR]
    # Two webs whose weak end is above that of even takes.
    found.append(World([[0, 2, 2, 0], [4, 0, 4, 2], [0, 4, 0, 3], [1, 1, 2, 0]]))
    found.append(World([[0, 1, 4, 4], [1, 0, 2, 0], [1, 3, 0, 1], [2, 0, 0, 0]]))
    return found + [World(table(size, lambda i, j: 2 if (j - i) % size == 1 else 1)) for size in (3, 4, 5)]


def steps_out(web, i, lot):
    return sum(web.takes[i][j] for j in rest(lot, web.size))


class StrongEnd(Checks):
    def test_equations(self):
        for web in webs():
            row = self.told(strong_end(web))
            self.assertEqual(len(row), 1 << web.size)
            worth = {lot: self.fraction(row[number_of_places(lot)]) for lot in lots(web.size)}
            self.same((row[0], row[-1]), ((1, 1), (0, 1)))
            for lot in lots(web.size)[1:-1]:
                into = sum(web.takes[i][j] for i in rest(lot, web.size) for j in lot)
                out = sum(worth[tuple(p for p in lot if p != i)] * steps_out(web, i, lot) for i in lot)
                self.assertEqual(worth[lot] * into, out)

    def test_one_place(self):
        for web in webs():
            row = strong_end(web)
            for i in range(web.size):
                self.same(row[1 << i], pair(Fraction(sum(web.takes[i]), sum(line[i] for line in web.takes))))

    def test_even(self):
        found = set()
        for web in webs():
            row, even = strong_end(web), is_even(web.takes)
            self.assertIs(set(row[1:-1]) == {(1, 1)}, even)
            self.assertIs({row[1 << i] for i in range(web.size)} == {(1, 1)}, even)
            found.add(even)
        self.assertEqual(found, {True, False})

    def test_bounds(self):
        for web in webs():
            row, told = strong_end(web), say_row(web)
            for lot in lots(web.size)[:-1]:
                worth = Fraction(*row[number_of_places(lot)])
                self.assertGreaterEqual(worth, prod((min(told) / told[i] for i in lot), start=Fraction(1)))
                self.assertLessEqual(worth, prod((max(told) / told[i] for i in lot), start=Fraction(1)))

    def test_paces(self):
        for web, near, p in paced_webs(SIZES):
            self.assertIsNotNone(paces(web))
            row = strong_end(web)
            for lot in lots(web.size)[:-1]:
                inner = len(set(lot) & set(near))
                self.same(row[number_of_places(lot)], pair(p ** (2 * inner - len(lot))))

    def test_far_on(self):
        r = 10 ** 40
        for web in webs():
            if web.size > 4:
                continue
            row = fractions(strong_end(web))
            for lot in lots(web.size)[1:-1]:
                near = r ** len(lot) * (1 - Fraction(*win_at(web, r, lot)))
                self.assertLess(abs(near / row[number_of_places(lot)] - 1), Fraction(1, 10 ** 9))

    def test_takes_alone(self):
        for world in calling_worlds():
            self.same(strong_end(world), strong_end(web_of(world)))
            self.same(weak_end(world), weak_end(web_of(world)))
            self.same(verdict_near_one(world), verdict_near_one(web_of(world)))


class WeakEnd(Checks):
    def test_meetings(self):
        for web in webs():
            told, times = say_row(web), [fractions(row) for row in meetings(web)]
            total = sum(told[i] * web.takes[i][j] * times[i][j] for i, j in web.ties())
            self.same(self.told(weak_end(web)), pair(total / (web.size * sum(map(sum, web.takes)))))

    def test_slopes(self):
        for web in webs():
            singles = fractions(Slopes(with_calls(web, web.takes)).singles())
            self.same(weak_end(web), pair(sum(singles) / web.size))

    def test_mean_near_one(self):
        h = Fraction(1, 10 ** 12)
        for web in webs():
            if web.size > 4:
                continue
            low, high = (
                sum(Fraction(*win_at(web, pair(r), (i,))) for i in range(web.size)) / web.size for r in (1 - h, 1 + h)
            )
            gap = (high - low) / (2 * h) / Fraction(*weak_end(web)) - 1
            self.assertLess(abs(gap), Fraction(1, 10 ** 6))

    def test_verdict(self):
        found = set()
        for web in webs():
            limit = Fraction(web.size - 1, 2 * web.size)
            worth = Fraction(*weak_end(web))
            self.same(verdict_near_one(web), (worth > limit) - (worth < limit))
            if is_even(web.takes):
                self.assertEqual(worth, limit)
            found.add(verdict_near_one(web))
        self.assertEqual(found, {-1, 0, 1})

    def test_refused(self):
        for call in (strong_end, weak_end, verdict_near_one):
            for world in (SIX_SHUT, World(ring_takes(6))):
                self.refused("TooMany", 6, call, world)
            self.refused("NotLinked", (1, 2), call, SHUT)
            self.refused("NotLinked", (0,), call, World([[0] * 5] * 5))

    def test_greatest(self):
        web = World(table(5, lambda i, j: BIG - 6 * i - j))
        since = perf_counter()
        (strong_end(web), weak_end(web), verdict_near_one(web))
        self.assertLess(perf_counter() - since, 3)


if __name__ == "__main__":
    unittest.main()
