"""Points 96 and 105: worlds by factors, and which of them are independent."""

import random
import unittest
from fractions import Fraction

from copyrates.byfactors import by_factors, factor_kind, factors_of, two_factors
from copyrates.independent import odds_of
from copyrates.naturals import natural, strength_of
from copyrates.shapes import fair_break, sides
from copyrates.worlds import World, web_of
from tests.kit import BIG, Checks, linked, pair, path_web, ring_takes, table, webs
from tests.oddkit import (
    FAR, NO_FRACTION, SHUT, SIX_SHUT, calling_worlds, exact_world, odd_webs, odds_by_jury, say_row, sided_webs, terms
)

TRIANGLE = World(ring_takes(3))


def some_factors(size, seed):
    draw = random.Random(seed)
    return [1 + Fraction(draw.randrange(0, 9), draw.randrange(1, 9)) for _ in range(size)]


def by_hand(web, factors):
    return exact_world(web.takes, [[(f - 1) * take for take in row] for f, row in zip(factors, web.takes)])


def numbers_give(web, v, q):
    """The factors that two numbers give in a two-sided web."""
    near = sides(web)[0]
    return [v + q * say if i in near else (1 + q * say) / v for i, say in enumerate(say_row(web))]


def fair_sided(web):
    return sides(web) is not None and fair_break(web) is None


class ByFactors(Checks):
    def test_rates(self):
        for web in odd_webs():
            factors = some_factors(web.size, 96)
            made, wanted = by_factors(web, [terms(factor, 4) for factor in factors]), by_hand(web, factors)
            self.assertIsInstance(made, World)
            self.told((made.takes, made.calls))
            self.same((made.takes, made.calls), (wanted.takes, wanted.calls))
            self.same(factors_of(made), tuple(map(pair, factors)))

    def test_takes_alone(self):
        for world in calling_worlds():
            factors = list(map(pair, some_factors(world.size, 7)))
            self.assertEqual(by_factors(world, factors), by_factors(web_of(world), tuple(factors)))
            self.assertEqual(by_factors(world, [1] * world.size), web_of(world))

    def test_plain(self):
        made = by_factors(World([[0, 1], [2, 0]]), [(3, 2), 1])
        self.same((made.takes, made.calls), (((0, 2), (4, 0)), ((0, 1), (0, 0))))
        far = by_factors(World([[0, 3], [BIG, 0]]), [(FAR + 1, FAR), FAR])
        self.same(factors_of(far), ((FAR + 1, FAR), (FAR, 1)))

    def test_refused(self):
        self.refused("NotLinked", (1, 2), by_factors, SHUT, None)
        for factors in (None, 3, "111", (), [1, 1], (1, 1, 1, 1), {0: 1, 1: 1, 2: 1}, range(3)):
            self.refused("BadOdds", -1, by_factors, TRIANGLE, factors)
        for entry in NO_FRACTION + (0, -1, (1, 2), (FAR - 1, FAR), (0, 3)):
            self.refused("BadOdds", 1, by_factors, TRIANGLE, [1, entry, None])
        # A fraction that is too small is refused ahead of what is none.
        self.refused("BadOdds", 0, by_factors, TRIANGLE, [(1, 2), None, None])
        self.refused("BadOdds", 0, by_factors, TRIANGLE, [None, (1, 2), None])

    def test_arguments_stay(self):
        factors = [1, [3, 2], (6, 4)]
        by_factors(TRIANGLE, factors)
        self.assertEqual(factors, [1, [3, 2], (6, 4)])


class FactorsOf(Checks):
    def test_definition(self):
        found = set()
        for world in calling_worlds((2, 3, 4, 5)):
            rows = [{1 + Fraction(c, t) for t, c in zip(*row) if t} for row in zip(world.takes, world.calls)]
            wanted = tuple(pair(row.pop()) for row in rows) if all(len(row) == 1 for row in rows) else None
            self.same(self.told(factors_of(world)), wanted)
            found.add(wanted is None)
        self.assertEqual(found, {True, False})

    def test_steady(self):
        for web in odd_webs():
            self.same(factors_of(web), ((1, 1),) * web.size)

    def test_natural(self):
        for web in odd_webs():
            self.same(factors_of(natural(web, (3, 7))), tuple(pair(1 + Fraction(3, 7) * say) for say in say_row(web)))

    def test_one_call_missing(self):
        world = World([[0, 1, 1], [1, 0, 1], [1, 1, 0]], calls=[[0, 0, 0], [2, 0, 0], [0, 0, 0]])
        self.assertIsNone(factors_of(world))
        self.assertIsNone(factor_kind(world))

    def test_not_linked(self):
        self.refused("NotLinked", (1, 2), factors_of, SHUT)
        self.refused("NotLinked", (1, 2), factor_kind, SHUT)
        self.refused("NotLinked", (0,), factor_kind, SIX_SHUT)


class Kinds(Checks):
    def check(self, world):
        """The kind is that which the jury tells; returns its word."""
        kind = factor_kind(world)
        self.told(kind)
        independent = odds_by_jury(world) if world.size < 5 else odds_of(world)
        if factors_of(world) is None or independent is None:
            self.assertIsNone(kind)
            return None
        if strength_of(world) is not None:
            self.same(kind, ("natural", strength_of(world)))
            return "natural"
        self.assertEqual((kind[0], len(kind)), ("two", 4))
        v, q, lot = kind[1:]
        self.assertTrue(fair_sided(world))
        self.same(lot, sides(world)[0])
        self.assertNotEqual(v, (1, 1))
        self.same(two_factors(world, v, q), factors_of(world))
        near, told = sides(world)[0], say_row(world)
        odds = [Fraction(*q) * say / (Fraction(*v) if i in near else 1) for i, say in enumerate(told)]
        self.same(odds_of(world), tuple(map(pair, odds)))
        return "two"

    def test_by_the_jury(self):
        found = []
        for web in odd_webs((2, 3, 4)):
            found.append(self.check(web))
            for seed in (1, 2):
                found.append(self.check(by_hand(web, some_factors(web.size, seed))))
            found.append(self.check(natural(web, (2, 3))))
            found.append(self.check(by_hand(web, [Fraction(5, 2)] * web.size)))
        for world in calling_worlds((2, 3)):
            found.append(self.check(world))
        self.assertEqual(set(found), {None, "natural", "two"})

    def test_two_numbers(self):
        many = 0
        for web in sided_webs():
            for v in (Fraction(1, 2), Fraction(4, 3), Fraction(1), Fraction(9, 8)):
                for q in (Fraction(1), Fraction(7, 2), Fraction(12)):
                    factors = numbers_give(web, v, q)
                    if min(factors) >= 1:
                        wanted = ("natural", pair(q)) if v == 1 else ("two", pair(v), pair(q), sides(web)[0])
                        self.same(self.told(factor_kind(by_hand(web, factors))), wanted)
                        self.check(by_hand(web, factors))
                        many += 1
        self.assertGreater(many, 40)

    def test_small_webs(self):
        # All webs of three places with takes 0 and 1, by factors from a grid.
        found = set()
        for web in webs(3):
            if linked(web):
                for factors in ((2, 1, 1), (1, 2, 2), (2, 2, 2), (1, 3, 2), (3, 2, 3)):
                    found.add(self.check(by_hand(web, list(map(Fraction, factors)))))
        self.assertEqual(found, {None, "natural", "two"})

    def test_other_webs(self):
        # The factors of two numbers are of no use where the web is not two-sided or not fair.
        triangle = World(table(3, lambda i, j: 1))
        self.assertIsNone(factor_kind(by_hand(triangle, [Fraction(2), Fraction(1), Fraction(1)])))
        unfair = World([[0, 1, 0, 2], [1, 0, 1, 0], [0, 1, 0, 1], [1, 0, 1, 0]])
        self.assertIsNotNone(sides(unfair))
        self.assertIsNotNone(fair_break(unfair))
        for v in (Fraction(9, 10), Fraction(11, 10)):
            world = by_hand(unfair, numbers_give(unfair, v, Fraction(12)))
            self.assertIsNone(factor_kind(world))
            self.assertIsNone(odds_by_jury(world))

    def test_six_places(self):
        web = World(path_web([2, 0, 5, 3, 1, 4], lambda i, j: 1 + (3 * i + j) % 4))
        for v, wanted in ((Fraction(10, 9), ("two", (10, 9), (30, 1), sides(web)[0])), (Fraction(1), ("natural", (30, 1)))):
            self.same(factor_kind(by_hand(web, numbers_give(web, v, Fraction(30)))), wanted)


class TwoFactors(Checks):
    def test_definition(self):
        found = set()
        for web in odd_webs():
            for v, q in ((Fraction(1), Fraction(3)), (Fraction(4, 3), Fraction(1)), (Fraction(7, 8), Fraction(20))):
                wanted = None
                if fair_sided(web):
                    factors = numbers_give(web, v, q)
                    wanted = tuple(map(pair, factors)) if min(factors) >= 1 else None
                self.same(self.told(two_factors(web, terms(v, 5), pair(q))), wanted)
                found.add((wanted is None, fair_sided(web)))
        self.assertEqual(found, {(True, True), (True, False), (False, True)})

    def test_takes_alone(self):
        for web in sided_webs():
            self.same(two_factors(natural(web, 2), (10, 9), 12), two_factors(web, (10, 9), 12))

    def test_plain(self):
        web = World([[0, 1], [2, 0]])
        self.same(two_factors(web, 2, 3), ((4, 1), (1, 1)))
        # One number more and the factor of place 1 is below 1.
        self.assertIsNone(two_factors(web, (2 * FAR + 1, FAR), 3))
        self.assertIsNone(two_factors(web, (1, 4), 1))
        self.same(two_factors(web, (1, FAR), 2), ((4 * FAR + 3, 3 * FAR), (5 * FAR, 3)))

    def test_refused(self):
        self.refused("NotLinked", (1, 2), two_factors, SHUT, None, None)
        for value in NO_FRACTION + (0, -1, (0, 3), (-1, 2)):
            # Even where the web is not two-sided.
            self.refused("BadFraction", "v", two_factors, TRIANGLE, value, value)
            self.refused("BadFraction", "q", two_factors, TRIANGLE, 1, value)


if __name__ == "__main__":
    unittest.main()
