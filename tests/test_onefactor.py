"""Points 110 to 112 and 115: one factor for all ties, paces and their odds."""

import random
import unittest
from fractions import Fraction
from time import perf_counter

from copyrates.coming import least_counting
from copyrates.countalone import number_factor
from copyrates.even import is_even
from copyrates.independent import odds_of
from copyrates.juries import Jury
from copyrates.naturals import strength_of
from copyrates.onefactor import factor_of, one_factor, pace_odds, paces, tipping, win_at
from copyrates.sandwich import strengths
from copyrates.sayrows import said
from copyrates.wins import win
from copyrates.worlds import World, web_of
from tests.kit import BIG, NO_WHOLE, Checks, lots, pair, rest, ring_takes, some_worlds, table, wins_by_run
from tests.oddkit import (
    FAR, NO_FRACTION, SHUT, SIX_SHUT, calling_worlds, exact_world, odd_webs, odds_by_jury, say_row, sided_webs, terms
)

TRIANGLE = World(ring_takes(3))
STAR = World([[0, 1, 1], [2, 0, 0], [2, 0, 0]])
FACTORS = (Fraction(1), Fraction(2), Fraction(5, 3), Fraction(101, 100), Fraction(40))


def by_hand(web, r):
    return exact_world(web.takes, [[(r - 1) * take for take in row] for row in web.takes])


def paced(size, near, p, seed):
    """A web with two paces: the takes of the places in `near` are p times as great as their turned ones."""
    draw = random.Random(seed)
    far = rest(near, size)
    s = table(size, lambda i, j: 0)
    for at, i in enumerate(near):
        for k, j in enumerate(far):
            if at == 0 or k == 0 or draw.randrange(2):
                s[i][j] = s[j][i] = draw.randrange(1, 4) * p.denominator
    return World(table(size, lambda i, j: int(p * s[i][j]) if i in near else s[i][j]))


def paced_webs(sizes=(2, 3, 4, 5, 6)):
    found = []
    for size in sizes:
        for seed, p in enumerate((Fraction(1, 2), Fraction(3), Fraction(5, 4))):
            near = (0,) if seed == 0 else tuple(range(0, size, 2))
            found.append((paced(size, near, p, seed), near, p))
    return found


def win_of_factor(web, r, lot):
    """win_r as point 110 says it, as a Fraction."""
    if r >= 1:
        return wins_by_run(by_hand(web, r))[lot]
    return 1 - wins_by_run(by_hand(web, 1 / r))[rest(lot, web.size)]


class OneFactor(Checks):
    def test_rates(self):
        for web in odd_webs() + [SHUT, SIX_SHUT, World([[0, 0], [4, 0]])]:
            for r in FACTORS + (Fraction(FAR, 3),):
                made, wanted = one_factor(web, terms(r, 2)), by_hand(web, r)
                self.assertIsInstance(made, World)
                self.told((made.takes, made.calls))
                self.same((made.takes, made.calls), (wanted.takes, wanted.calls))
                self.same(factor_of(made), pair(r) if web.ties() else None)

    def test_takes_alone(self):
        for world in calling_worlds() + [SHUT]:
            self.assertEqual(one_factor(world, (7, 4)), one_factor(web_of(world), (7, 4)))

    def test_plain(self):
        made = one_factor(World([[0, 2], [4, 0]]), (5, 4))
        self.same((made.takes, made.calls), (((0, 4), (8, 0)), ((0, 1), (2, 0))))
        self.same(one_factor(World([[0, 0], [0, 0]]), (5, 4)).takes, ((0, 0), (0, 0)))

    def test_refused(self):
        for world in (TRIANGLE, SHUT):
            for factor in NO_FRACTION + (0, -1, (1, 2), (FAR - 1, FAR)):
                self.refused("BadFraction", "factor", one_factor, world, factor)


class FactorOf(Checks):
    def test_definition(self):
        found = set()
        worlds = calling_worlds((2, 3, 4, 5)) + list(some_worlds(3, 40, 1, zeros=6)) + [SHUT]
        for world in worlds:
            ratios = {1 + Fraction(world.calls[i][j], world.takes[i][j]) for i, j in world.ties()}
            wanted = pair(ratios.pop()) if len(ratios) == 1 else None
            self.same(self.told(factor_of(world)), wanted)
            found.add((wanted is None, world.steady))
        self.assertEqual(len(found), 4)

    def test_no_ties(self):
        self.assertIsNone(factor_of(World([[0, 0], [0, 0]])))
        self.assertIsNone(factor_of(SIX_SHUT))
        self.same(factor_of(World([[0, 0], [7, 0]])), (1, 1))
        self.same(factor_of(World([[0, 0], [7, 0]], calls=[[0, 0], [7, 0]])), (2, 1))


class WinAt(Checks):
    def test_definition(self):
        for web in odd_webs((2, 3)) + odd_webs((4,))[:3]:
            for r in FACTORS[:4] + (Fraction(1, 2), Fraction(99, 100)):
                for lot in lots(web.size):
                    self.same(self.told(win_at(web, terms(r, 3), lot[::-1])), pair(win_of_factor(web, r, lot)))

    def test_takes_alone(self):
        for world in calling_worlds():
            self.same(win_at(world, (7, 4), (0,)), win_at(web_of(world), (7, 4), (0,)))

    def test_worlds(self):
        for web in odd_webs((5,)):
            for r in (Fraction(1), Fraction(5, 3)):
                for lot in lots(5)[::7]:
                    self.same(win_at(web, pair(r), lot), win(one_factor(web, pair(r)), lot))

    def test_turned_round(self):
        for web in odd_webs((2, 3, 4, 5)):
            for lot in lots(web.size)[:: 1 if web.size < 4 else 3]:
                for r in (Fraction(3, 7), Fraction(1), Fraction(50)):
                    both = Fraction(*win_at(web, pair(r), lot)) + Fraction(*win_at(web, pair(1 / r), rest(lot, web.size)))
                    self.assertEqual(both, 1)
                self.same(win_at(web, 1, lot), said(web, lot))

    def test_rises(self):
        for web in odd_webs((2, 3)):
            for lot in lots(web.size)[1:-1]:
                row = [Fraction(*win_at(web, r, lot)) for r in ((1, FAR), (1, 9), (2, 3), 1, (8, 7), 3, FAR)]
                self.assertEqual(row, sorted(set(row)))
                self.assertTrue(row[0] < Fraction(1, BIG) and row[-1] > 1 - Fraction(1, BIG))

    def test_refused(self):
        for world in (SIX_SHUT, World(ring_takes(6))):
            self.refused("TooMany", 6, win_at, world, None, None)
        self.refused("NotLinked", (1, 2), win_at, SHUT, None, None)
        for factor in NO_FRACTION + (0, -1, (0, 3), (-1, 2)):
            self.refused("BadFraction", "factor", win_at, TRIANGLE, factor, None)
        for lot, place in ((None, None), (1, None), ((0, 3), 3), ([1, 1], 1), ((True,), True)):
            self.refused("BadLot", place, win_at, TRIANGLE, (1, 2), lot)
        self.same((win_at(TRIANGLE, 2, ()), win_at(TRIANGLE, 2, [2, 0, 1])), ((0, 1), (1, 1)))

    def test_greatest(self):
        web = World(table(5, lambda i, j: BIG - 6 * i - j))
        since = perf_counter()
        low, high = (Fraction(*win_at(web, factor, (0, 3))) for factor in ((BIG - 1, BIG), (BIG + 1, BIG)))
        self.assertTrue(low < Fraction(*said(web, (0, 3))) < high)
        self.assertLess(perf_counter() - since, 3)


class Tipping(Checks):
    def check(self, web, lot, parts, told):
        half = Fraction(1, 2)
        self.assertEqual(type(told), int)
        if told > 0:
            self.assertLessEqual(Fraction(*win_at(web, (told, parts), lot)), half)
        self.assertGreater(Fraction(*win_at(web, (told + 1, parts), lot)), half)

    def test_definition(self):
        for web in odd_webs((2, 3, 4)):
            for lot in lots(web.size)[1:-1]:
                self.check(web, lot, 16, tipping(web, lot[::-1]))
                for parts in (1, 3, 1000):
                    self.check(web, lot, parts, tipping(web, list(lot), parts=parts))

    def test_bounds(self):
        for web in odd_webs((2, 3, 4)):
            told = say_row(web)
            for lot in lots(web.size)[1:-1]:
                a = tipping(web, lot, parts=100)
                inner, outer = (max(told[i] for i in some) for some in (lot, rest(lot, web.size)))
                self.assertLess(Fraction(a, 100), 1 + max(told) / inner)
                self.assertGreater(Fraction(a + 1, 100), 1 / (1 + max(told) / outer))
                self.assertIs(a < 100, sum(told[i] for i in lot) > Fraction(1, 2))

    def test_tips_that_are_fractions(self):
        # In a web of two places tip((0)) is the quotient of the takes.
        web = World([[0, 3], [4, 0]])
        self.same([tipping(web, (0,), parts=parts) for parts in (1, 3, 4, 7, 8, 1000)], [0, 2, 3, 5, 6, 750])
        self.same([tipping(web, (1,), parts=parts) for parts in (1, 3, 6, 1000)], [1, 4, 8, 1333])
        self.same(tipping(World([[0, 1], [1, 0]]), (1,)), 16)
        self.same(tipping(World([[0, 1], [2, 0]]), (1,), parts=1), 2)

    def test_far_tips(self):
        web = World([[0, BIG], [1, 0]])
        self.same([tipping(web, (0,), parts=1000), tipping(web, (1,), parts=1000)], [1000 * BIG, 0])
        web = World(table(4, lambda i, j: BIG if j == (i + 1) % 4 and i < 3 else 1))
        since = perf_counter()
        for lot in lots(4)[1:-1]:
            self.check(web, lot, 1000, tipping(web, lot, parts=1000))
        self.assertLess(perf_counter() - since, 8)

    def test_takes_alone(self):
        for world in calling_worlds():
            self.same(tipping(world, (1,)), tipping(web_of(world), (1,)))

    def test_refused(self):
        for world in (SIX_SHUT, World(ring_takes(5)), World([[0] * 5] * 5)):
            self.refused("TooMany", world.size, tipping, world, None, parts=None)
        self.refused("NotLinked", (1, 2), tipping, SHUT, None, parts=None)
        for lot, place in ((None, None), (1, None), ((0, 3), 3), ([1, 1], 1), ((True,), True), ((), None),
                           ([2, 0, 1], None)):
            self.refused("BadLot", place, tipping, TRIANGLE, lot, parts=None)
        for parts in NO_WHOLE + (0, -1, 1001):
            self.refused("BadNumber", "parts", tipping, TRIANGLE, (0,), parts=parts)


class Paces(Checks):
    def test_definition(self):
        for web, near, p in paced_webs():
            told = self.told(paces(web))
            s = table(web.size, lambda i, j: web.takes[j][i] if i in near else web.takes[i][j])
            self.same(told, (near, rest(near, web.size), pair(p), tuple(map(tuple, s))))
            for i in range(web.size):
                for j in range(web.size):
                    self.assertEqual(s[i][j], s[j][i])
                    self.assertEqual(web.takes[i][j], (p if i in near else 1) * s[i][j])
            self.assertFalse(is_even(web.takes))
            self.same(least_counting(web)[0], pair(max(p, 1 / p)))

    def test_none(self):
        for web, near, p in paced_webs((3, 4, 5, 6)):
            rows = [list(row) for row in web.takes]
            i, j = web.ties()[-1]
            rows[i][j] += 1
            self.assertIsNone(paces(World(rows)))
        even = table(4, lambda i, j: 3 if (i + j) % 2 else 0)
        one_way = World([[0, 1, 0, 0], [0, 0, 1, 0], [0, 0, 0, 1], [1, 0, 0, 0]])
        for web in (World(even), one_way, TRIANGLE, World(table(3, lambda i, j: 2)), World([[0, 5], [5, 0]])):
            self.assertIsNone(paces(web))
        # Two-sided and two-way, but with another pace at each tie.
        self.assertIsNone(paces(World([[0, 1, 0], [2, 0, 1], [0, 3, 0]])))

    def test_takes_alone(self):
        self.same(paces(World(STAR.takes, calls=[[0, 1, 0], [0, 0, 0], [5, 0, 0]])), paces(STAR))

    def test_not_linked(self):
        self.refused("NotLinked", (1, 2), paces, SHUT)
        self.refused("NotLinked", (0,), paces, SIX_SHUT)


class PaceOdds(Checks):
    def test_definition(self):
        for p in (Fraction(1, 2), Fraction(3), Fraction(1), Fraction(FAR, 7)):
            for r in (Fraction(2), Fraction(5, 3), Fraction(FAR + 1, FAR)):
                one, other = (r * r - 1) / (1 + r * p), p * (r * r - 1) / (r + p)
                for sides in ([(0,), (1,)], [[3, 0], [2, 4, 1]], ((1, 2), (0,)), [(5, 4, 3), (0, 1, 2)]):
                    wanted = [one if i in sides[0] else other for i in range(len(sides[0]) + len(sides[1]))]
                    told = self.told(pace_odds(terms(p, 2), terms(r, 3), sides))
                    self.same(told, tuple(map(pair, wanted)))

    def test_refused(self):
        for pace in NO_FRACTION + (0, -1, (0, 3), (-1, 2)):
            self.refused("BadFraction", "pace", pace_odds, pace, None, None)
        for factor in NO_FRACTION + (0, -1, 1, (7, 7), (1, 2)):
            self.refused("BadFraction", "factor", pace_odds, (1, 2), factor, None)
        for sides in (None, 3, "01", {0: 1, 1: 1}, [(0, 1)], [(0,), (1,), (2,)], [(0,), 1], [(0,), None], ["0", "1"],
                      [(0,), ()], [(), ()], [(0, 1, 2, 3), (4, 5, 6)], [(0, 1), ()], [(), (0, 1)], [(0,), (2,)],
                      [(0,), (True,)], [(0,), (-1,)]):
            self.refused("BadBlocks", -1, pace_odds, 1, 2, sides)
        for sides, place in (([(0,), (0,)], 0), ([(1,), (1,)], 0), ([(0, 1), (1, 3)], 1), ([(0, 2), (3, 3)], 1)):
            self.refused("BadBlocks", place, pace_odds, 1, 2, sides)

    def test_arguments_stay(self):
        pace, sides = [2, 4], [[0], [2, 1]]
        (pace_odds(pace, 2, sides), pace_odds((1, 2), [4, 2], sides))
        self.assertEqual((pace, sides), ([2, 4], [[0], [2, 1]]))


class Independent(Checks):
    def test_even_or_two_paces(self):
        found = set()
        webs = odd_webs((2, 3, 4)) + [web for web, near, p in paced_webs((2, 3, 4))] + sided_webs((3, 4))
        webs.extend(World(table(size, lambda i, j: 2 if (j - i) % size == 1 else 1)) for size in (3, 4))
        for web in webs:
            even, told = is_even(web.takes), paces(web)
            for r in (Fraction(2), Fraction(5, 3)):
                world = one_factor(web, pair(r))
                wanted = None
                if even:
                    wanted = (pair(r - 1),) * web.size
                elif told:
                    wanted = pace_odds(told[2], pair(r), told[:2])
                self.same(odds_of(world), wanted)
                self.assertIs(odds_by_jury(world) is None, wanted is None)
                self.assertIs(strength_of(world) is not None, even)
                self.same(number_factor(world), pair(r) if even else None)
                told_says = say_row(web)
                self.same(strengths(world), (pair((r - 1) / max(told_says)), pair((r - 1) / min(told_says))))
                found.add((even, told is not None))
        self.assertEqual(found, {(True, False), (False, True), (False, False)})

    def test_five_places(self):
        for web, near, p in paced_webs((5,)):
            side, far, pace, s = paces(web)
            self.same(odds_of(one_factor(web, (7, 3))), pace_odds(pace, (7, 3), (side, far)))

    def test_sizes(self):
        for web in odd_webs((2, 3, 4)):
            r = Fraction(9, 4)
            jury = Jury(one_factor(web, pair(r)))
            wins = [Fraction(*win_at(web, pair(r), (i,))) for i in range(web.size)]
            losses = [Fraction(*win_at(web, pair(1 / r), (i,))) for i in range(web.size)]
            self.same(jury.mean_size, pair(sum(wins)))
            self.same(jury.sized(1), pair(sum(losses)))


if __name__ == "__main__":
    unittest.main()
