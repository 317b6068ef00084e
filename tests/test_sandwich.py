"""Points 99, 100 and 105: the natural rules around win, and the borders of odds."""

import unittest
from fractions import Fraction

from copyrates.coming import world_for
from copyrates.independent import fits
from copyrates.juries import Jury
from copyrates.naturals import natural
from copyrates.sandwich import between, border, strengths
from copyrates.shapes import line
from copyrates.worlds import World
from tests.kit import BIG, Checks, lots, pair, path_web, rest, ring_takes, table, wins_by_run
from tests.oddkit import (
    FAR, NO_FRACTION, SHUT, SIX_SHUT, calling_worlds, flow_rows, natural_row, odd_webs, odds_by_jury, rule_row, some_odds,
    terms
)

TRIANGLE = World(ring_takes(3))


def ratios(world):
    flows = flow_rows(world)
    return [world.calls[i][j] / flows[i][j] for i, j in world.ties()]


def six_world():
    web = path_web([2, 0, 5, 3, 1, 4], lambda i, j: 1 + (3 * i + j) % 4)
    return World(web, calls=table(6, lambda i, j: (1 + i + j) * min(1, web[i][j])))


def border_of(world, odds, lot):
    return sum(
        (world.takes[i][j] + world.calls[i][j]) * odds[i] / (1 + odds[i]) - odds[j] * world.takes[j][i]
        for j in lot for i in rest(lot, world.size)
    )


class Strengths(Checks):
    def test_definition(self):
        for world in calling_worlds((2, 3, 4, 5)) + odd_webs() + [six_world()]:
            found = ratios(world)
            self.same(self.told(strengths(world)), (pair(min(found)), pair(max(found))))

    def test_natural(self):
        for web in odd_webs():
            self.same(strengths(natural(web, (7, 3))), ((7, 3), (7, 3)))
            self.same(strengths(web), ((0, 1), (0, 1)))

    def test_one_tie_that_does_not_call(self):
        world = World([[0, 1], [2, 0]], calls=[[0, 0], [1, 0]])
        self.same(strengths(world), ((0, 1), (3, 2)))

    def test_not_linked(self):
        for world, lot in ((SHUT, (1, 2)), (SIX_SHUT, (0,))):
            self.refused("NotLinked", lot, strengths, world)
            self.refused("NotLinked", lot, between, world, None)
            self.refused("NotLinked", lot, border, world, None, None)


class Between(Checks):
    def test_definition(self):
        for world in calling_worlds((2, 3, 4, 5)) + odd_webs((6,)) + [six_world()]:
            found = ratios(world)
            low, high = (natural_row(world, strength) for strength in (min(found), max(found)))
            for lot in lots(world.size):
                self.same(self.told(between(world, list(lot)[::-1])), (pair(low[lot]), pair(high[lot])))

    def test_win_lies_between(self):
        strict = 0
        for world in calling_worlds():
            row = wins_by_run(world)
            lower, upper = (Fraction(*strength) for strength in strengths(world))
            for lot in lots(world.size):
                low, high = (Fraction(*chance) for chance in between(world, lot))
                self.assertTrue(low <= row[lot] <= high)
                if lower < upper and line(world) is None and 0 < len(lot) < world.size:
                    self.assertTrue(low < row[lot] < high)
                    strict += 1
        self.assertGreater(strict, 50)

    def test_sizes_lie_between(self):
        many = 0
        for world in calling_worlds():
            if len(set(strengths(world))) == 1:
                continue
            jury = Jury(world)
            sides = []
            for strength in strengths(world):
                if strength == (0, 1):
                    sides.append(([0] * (world.size + 1), Fraction(1)))
                else:
                    own = Jury(natural(world, strength))
                    sides.append(([at_least(own, k) for k in range(world.size + 1)], Fraction(*own.mean_size)))
            for k in range(2, world.size + 1):
                self.assertTrue(sides[0][0][k] < at_least(jury, k) < sides[1][0][k])
            self.assertTrue(sides[0][1] < Fraction(*jury.mean_size) < sides[1][1])
            many += 1
        self.assertGreater(many, 8)

    def test_lots(self):
        for world in (TRIANGLE, natural(TRIANGLE, 2)):
            for lot, place in ((None, None), (1, None), ((0, 3), 3), ([1, 1], 1), ((True,), True)):
                self.refused("BadLot", place, between, world, lot)
            self.same(between(world, ()), ((0, 1), (0, 1)))
            self.same(between(world, [2, 0, 1]), ((1, 1), (1, 1)))


def at_least(jury, k):
    """The chance that the jury has k places or more."""
    return sum(Fraction(*jury.sized(number)) for number in range(max(1, k), jury.size + 1))


class Border(Checks):
    def test_definition(self):
        for world in calling_worlds((2, 3, 4, 5)) + odd_webs((6,))[:3] + [six_world()]:
            odds = some_odds(world.size, 100)
            told = [terms(odd, 2) for odd in odds]
            for lot in lots(world.size):
                self.same(self.told(border(world, told, lot[::-1])), pair(border_of(world, odds, lot)))
            self.same((border(world, told, ()), border(world, told, list(range(world.size)))), ((0, 1), (0, 1)))

    def test_signs(self):
        found = {}
        for world in calling_worlds((2, 3)):
            row = wins_by_run(world)
            rows = [some_odds(world.size, seed) for seed in range(4)]
            rows.extend([Fraction(k)] * world.size for k in (1, 9))
            rows.extend([[Fraction(1, 9)] * world.size, odds_by_jury(world) or rows[0]])
            rows.append([2 * odd for odd in rows[-1]])
            for odds in rows:
                told, rule = list(map(pair, odds)), rule_row(odds)
                borders = [Fraction(*border(world, told, lot)) for lot in lots(world.size)[1:-1]]
                if min(borders) >= 0:
                    self.assertTrue(all(row[lot] >= rule[lot] for lot in row))
                if max(borders) <= 0:
                    self.assertTrue(all(row[lot] <= rule[lot] for lot in row))
                self.assertIs(not any(borders), fits(world, told))
                found[(min(borders) >= 0, max(borders) <= 0)] = True
        self.assertEqual(len(found), 4)

    def test_all_zero_if_independent(self):
        for web in odd_webs((3, 4, 5, 6)):
            odds = [pair(50 * odd) for odd in some_odds(web.size, 4)]
            world = world_for(web, odds)
            if world is not None:
                self.assertEqual({border(world, odds, lot) for lot in lots(web.size)}, {(0, 1)})

    def test_great_numbers(self):
        world = World(table(6, lambda i, j: BIG - i), calls=table(6, lambda i, j: BIG))
        odds = [Fraction(FAR, 3)] * 3 + [Fraction(1, FAR)] * 3
        self.same(border(world, list(map(pair, odds)), (1, 4)), pair(border_of(world, odds, (1, 4))))

    def test_refused(self):
        for odds in (None, 3, "111", (), [1, 1], (1, 1, 1, 1), {0: 1, 1: 1, 2: 1}, range(3)):
            self.refused("BadOdds", -1, border, TRIANGLE, odds, None)
        for entry in NO_FRACTION + (0, -1, (0, 3), (-1, 2)):
            self.refused("BadOdds", 1, border, TRIANGLE, [1, entry, entry], None)
        for lot, place in ((None, None), (1, None), ((0, 3), 3), ([1, 1], 1), ((True,), True)):
            self.refused("BadLot", place, border, TRIANGLE, [1, 1, 1], lot)

    def test_arguments_stay(self):
        odds, lot = [1, [1, 2], (3, 6)], [2, 0]
        (border(TRIANGLE, odds, lot), between(TRIANGLE, lot))
        self.assertEqual((odds, lot), ([1, [1, 2], (3, 6)], [2, 0]))


if __name__ == "__main__":
    unittest.main()
