"""Points 103 to 105: worlds in which the number of places alone tells who wins."""

import random
import unittest
from fractions import Fraction

from copyrates.countalone import counting_chance, number_factor
from copyrates.even import is_even
from copyrates.independent import odds_of
from copyrates.worlds import World, with_calls
from tests.kit import BIG, NO_WHOLE, Checks, lots, pair, ring_takes, table, wins_by_run
from tests.oddkit import (
    FAR, NO_FRACTION, SHUT, SIX_SHUT, calling_worlds, exact_world, natural_world, nu_row, odd_webs, two_way_webs
)


def chance_of(r, k, n):
    return Fraction(k, n) if r == 1 else (1 - 1 / r ** k) / (1 - 1 / r ** n)


def counting_worlds(sizes=(2, 3, 4)):
    """Worlds that have such a number: even takes with one factor, one-way rings, and two-way webs with raised calls."""
    draw = random.Random(103)
    found = [World([[0, 1], [2, 0]], calls=[[0, 3], [0, 0]])]
    for size in sizes:
        ring = World(ring_takes(size))
        found.extend([ring, World(table(size, lambda i, j: 2), calls=table(size, lambda i, j: 5))])
        found.append(natural_world(ring, Fraction(5, 2)))
        # Pairs of calls with one sum, but not alike both ways round a ring of three.
        if size == 3:
            found.append(World(table(3, lambda i, j: 2), calls=[[0, 3, 1], [1, 0, 3], [3, 1, 0]]))
        for web in two_way_webs(size, 3, 7 * size):
            t = web.takes
            if is_even(t):
                continue
            # Calls c(i,j) = r * t(j,i) - t(i,j) have the number r, if they are 0 or more.
            r = max(Fraction(t[i][j], t[j][i]) for i, j in web.ties()) * draw.choice((1, Fraction(4, 3)))
            found.append(exact_world(t, table(size, lambda i, j: r * t[j][i] - t[i][j])))
    return found


class NumberFactor(Checks):
    def test_by_the_wins(self):
        found = set()
        for world in calling_worlds() + counting_worlds() + odd_webs((2, 3, 4)):
            row, size = wins_by_run(world), world.size
            alone = all(len({row[lot] for lot in row if len(lot) == k}) == 1 for k in range(size + 1))
            told = self.told(number_factor(world))
            self.assertIs(told is not None, alone)
            by_size = [{part for lot, part in nu_row(world).items() if len(lot) == k} for k in range(1, size + 1)]
            self.assertIs(alone, all(len(parts) == 1 for parts in by_size))
            if alone:
                r = self.fraction(told)
                takes, calls = sum(map(sum, world.takes)), sum(map(sum, world.calls))
                self.assertEqual(r, Fraction(takes + calls, takes))
                for lot in lots(size):
                    self.assertEqual(row[lot], chance_of(r, len(lot), size))
                    self.same(counting_chance(told, len(lot), size), pair(row[lot]))
                self.assertIs(r == 1, world.steady)
                if r > 1:
                    self.same(odds_of(world), (pair(r - 1),) * size)
            found.add((alone, world.steady))
        self.assertEqual(len(found), 4)

    def test_steady(self):
        for web in odd_webs():
            self.same(number_factor(web), (1, 1) if is_even(web.takes) else None)

    def test_raised(self):
        for world in counting_worlds((2, 3, 4, 5, 6)):
            r = Fraction(*number_factor(world))
            if all(world.takes[j][i] for i, j in world.ties()):
                for more in (Fraction(1), Fraction(3, 7)):
                    calls = table(world.size, lambda i, j: world.calls[i][j] + more * world.takes[j][i])
                    self.same(number_factor(exact_world(world.takes, calls)), pair(r + more))

    def test_one_call_apart(self):
        for world in counting_worlds((3, 4, 5, 6)):
            for i, j in world.calling()[:2]:
                calls = [list(row) for row in world.calls]
                calls[i][j] += 1
                self.assertIsNone(number_factor(with_calls(world, calls)))

    def test_pairs_alone_do_not_do(self):
        # The pair sums are r times those of the takes; the sums to the places are not.
        world = World(table(3, lambda i, j: 2), calls=[[0, 3, 3], [1, 0, 3], [1, 1, 0]])
        self.assertIsNone(number_factor(world))
        # The sums to the places are r times those of the takes; the pair sums are not.
        world = World(table(4, lambda i, j: 2), calls=table(4, lambda i, j: [0, 1, 2, 1][(j - i) % 4]))
        self.assertIsNone(number_factor(world))

    def test_great(self):
        world = World(table(6, lambda i, j: BIG), calls=table(6, lambda i, j: BIG - 1))
        self.same(number_factor(world), (2 * BIG - 1, BIG))

    def test_not_linked(self):
        self.refused("NotLinked", (1, 2), number_factor, SHUT)
        self.refused("NotLinked", (0,), number_factor, SIX_SHUT)


class CountingChance(Checks):
    def test_formula(self):
        for r in (Fraction(1), Fraction(2), Fraction(3, 2), Fraction(FAR, FAR - 1), Fraction(FAR), Fraction(17, 5)):
            for size in range(2, 7):
                for number in range(size + 1):
                    wanted = pair(chance_of(r, number, size))
                    self.same(self.told(counting_chance(pair(r), number, size)), wanted)
                    self.same(counting_chance([3 * r.numerator, 3 * r.denominator], number, size), wanted)

    def test_plain(self):
        self.same(counting_chance(2, 1, 2), (2, 3))
        self.same(counting_chance((1, 1), 1, 3), (1, 3))
        self.same([counting_chance(r, 0, 6) for r in (1, 7)], [(0, 1), (0, 1)])
        self.same([counting_chance(r, 6, 6) for r in (1, 7)], [(1, 1), (1, 1)])

    def test_refused(self):
        for r in NO_FRACTION + (0, -1, (1, 2), (FAR - 1, FAR)):
            self.refused("BadFraction", "r", counting_chance, r, None, None)
        for size in NO_WHOLE + (0, 1, 7, -3):
            self.refused("BadNumber", "size", counting_chance, 1, None, size)
        for number in NO_WHOLE + (-1, 4):
            self.refused("BadNumber", "number", counting_chance, (3, 2), number, 3)


if __name__ == "__main__":
    unittest.main()
