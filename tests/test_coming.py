"""Points 101, 102, 104 and 105: odds that come, the calls that bring them, and the least counting number."""

import random
import unittest
from fractions import Fraction
from time import perf_counter

from copyrates.coming import calls_for, least_counting, needs, short_lot, world_for
from copyrates.even import is_even
from copyrates.independent import fits, odds_of
from copyrates.naturals import strength_of
from copyrates.shapes import is_two_way, line, long_rings
from copyrates.worlds import World, web_of, with_calls
from tests.kit import BIG, Checks, lots, pair, rest, ring_takes, table, wins_by_run
from tests.oddkit import (
    FAR, NO_FRACTION, SHUT, SIX_SHUT, calling_worlds, exact_world, odd_webs, rule_row, say_row, some_odds, terms,
    two_way_webs
)

TRIANGLE = World(ring_takes(3))
STEP = World([[0, 1, 0], [3, 0, 1], [0, 1, 0]])


def in_out(web, odds, lot):
    t = web.takes
    crossing = [(i, j) for i in lot for j in rest(lot, web.size)]
    w = {(i, j): odds[i] / (1 + odds[i]) if t[j][i] else odds[i] for i, j in crossing}
    return (
        sum((odds[j] * t[j][i] for i, j in crossing), start=Fraction(0)),
        sum((t[i][j] * w[(i, j)] for i, j in crossing), start=Fraction(0)),
    )


def trials(sizes=(2, 3, 4, 5, 6)):
    """Pairs of a web and odds, of which some come and some do not."""
    for at, web in enumerate(odd_webs(sizes)):
        told = say_row(web)
        yield web, [Fraction(1)] * web.size
        yield web, [Fraction(30)] * web.size
        yield web, [3 * say for say in told]
        for k in (1, 5, 40):
            yield web, [k * odd for odd in some_odds(web.size, at + k)]


class Needs(Checks):
    def test_definition(self):
        for web, odds in trials():
            for lot in lots(web.size):
                found = self.told(needs(web, [terms(odd, 2) for odd in odds], lot[::-1]))
                self.same(found, tuple(map(pair, in_out(web, odds, lot))))

    def test_takes_alone(self):
        for world in calling_worlds():
            odds = list(map(pair, some_odds(world.size, 3)))
            for call in (short_lot, calls_for, world_for):
                self.assertEqual(call(world, odds), call(web_of(world), odds))
            self.same(needs(world, odds, (0,)), needs(web_of(world), odds, (0,)))
            self.same(least_counting(world), least_counting(web_of(world)))

    def test_no_lot_and_all(self):
        self.same((needs(STEP, [1, 1, 1], ()), needs(STEP, [1, 1, 1], [2, 0, 1])), (((0, 1), (0, 1)),) * 2)


class Come(Checks):
    def test_short_lot(self):
        found = set()
        for web, odds in trials():
            lot = self.told(short_lot(web, list(map(pair, odds))))
            gaps = {some: in_out(web, odds, some) for some in lots(web.size)[1:-1]}
            short = [some for some, (inward, outward) in gaps.items() if inward < outward]
            if lot is None:
                self.assertEqual(short, [])
            else:
                self.assertIn(lot, short)
            found.add(lot is None)
        self.assertEqual(found, {True, False})

    def test_calls(self):
        many = 0
        for web, odds in trials():
            told = list(map(pair, odds))
            calls, world = calls_for(web, told), world_for(web, told)
            if short_lot(web, told) is not None:
                self.assertIsNone(calls)
                self.assertIsNone(world)
                continue
            self.told(calls)
            self.assertEqual([len(row) for row in calls], [web.size] * web.size)
            rows = [[self.fraction(entry) for entry in row] for row in calls]
            for i in range(web.size):
                for j in range(web.size):
                    self.assertGreaterEqual(rows[i][j], 0)
                    if web.takes[i][j] == 0:
                        self.assertEqual(rows[i][j], 0)
            wanted = exact_world(web.takes, rows)
            self.assertIsInstance(world, World)
            self.same((world.takes, world.calls), (wanted.takes, wanted.calls))
            self.assertIs(fits(world, told), True)
            if web.size < 5:
                row = rule_row(odds)
                self.assertEqual(wins_by_run(world), row)
                self.same(odds_of(world), tuple(map(pair, odds)))
            many += 1
        self.assertGreater(many, 50)

    def test_odds_of_worlds_come(self):
        # Whatever calls bring odds: the program finds some, too.
        for world in calling_worlds():
            odds = odds_of(world)
            if odds is not None:
                self.assertIsNone(short_lot(world, odds))
                self.assertIs(fits(world_for(world, odds), odds), True)

    def test_says_come(self):
        for web in odd_webs():
            for q in (Fraction(1, BIG), Fraction(7, 3)):
                odds = [pair(q * say) for say in say_row(web)]
                self.assertIsNone(short_lot(web, odds))
                self.assertIsNotNone(calls_for(web, odds))

    def test_more_and_fewer_calls(self):
        draw = random.Random(101)
        strict = 0
        for web, odds in trials((3,)):
            world = world_for(web, list(map(pair, odds)))
            if world is None:
                continue
            rule = rule_row(odds)
            for sign in (1, -1):
                calls = table(3, lambda i, j: max(0, world.calls[i][j] * 3 + sign * draw.choice((0, 0, 2)))
                              if world.takes[i][j] else 0)
                other = with_calls(web_of(world) * 3, calls)
                row = wins_by_run(other)
                for lot in lots(3):
                    self.assertGreaterEqual(sign * (row[lot] - rule[lot]), 0)
                    if calls != table(3, lambda i, j: 3 * world.calls[i][j]) and line(web) is None and 0 < len(lot) < 3:
                        self.assertNotEqual(row[lot], rule[lot])
                        strict += 1
        self.assertGreater(strict, 50)

    def test_multiples(self):
        found = set()
        for web, odds in trials():
            comes = [short_lot(web, [pair(k * odd) for odd in odds]) is None for k in (1, 2, Fraction(7, 2), 10 ** 40)]
            self.assertEqual(comes, sorted(comes))
            if is_two_way(web):
                self.assertIs(comes[-1], True)
            t = web.takes
            if any(
                t[i][j] and not t[j][i] and odds[i] * t[i][j] > sum(odds[k] * t[k][i] for k in range(web.size))
                for i in range(web.size) for j in range(web.size)
            ):
                self.assertEqual(comes, [False] * 4)
            found.add(tuple(comes))
        self.assertIn((False, False, False, False), found)
        self.assertIn((True, True, True, True), found)
        self.assertIn((False, False, False, True), found)

    def test_no_turned_ties(self):
        # On such a web just the multiples of the says come.
        many = 0
        shared = [(0, 1), (1, 2), (2, 0), (2, 3), (3, 0)]
        webs = [World(table(4, lambda i, j: 1 + i if (i, j) in shared else 0)), World(table(
            5, lambda i, j: 2 + j if (j - i) % 5 in (1, 2) else 0
        ))]
        for web in webs + [w for w in odd_webs((3, 4, 5)) if not any(w.takes[j][i] for i, j in w.ties())]:
            for odds in ([3 * say for say in say_row(web)], some_odds(web.size, 7)):
                world = world_for(web, list(map(pair, odds)))
                natural_odds = len({odd / say for odd, say in zip(odds, say_row(web))}) == 1
                self.assertIs(world is not None, natural_odds)
                if world is not None:
                    self.assertIsNotNone(strength_of(world))
                many += 1
        self.assertGreater(many, 6)

    def test_trees(self):
        found = set()
        star = World([[0, 2, 1, 3], [1, 0, 0, 0], [5, 0, 0, 0], [1, 0, 0, 0]])
        for web, odds in list(trials()) + [(star, some_odds(4, 3)), (star, [Fraction(9)] * 4)]:
            if not is_two_way(web) or long_rings(web):
                continue
            t = web.takes
            wanted = table(
                web.size, lambda i, j: t[j][i] * odds[j] * (1 + odds[i]) / odds[i] - t[i][j] if t[i][j] else Fraction(0)
            )
            calls = calls_for(web, list(map(pair, odds)))
            if min(min(row) for row in wanted) < 0:
                self.assertIsNone(calls)
            else:
                self.same(calls, tuple(tuple(map(pair, row)) for row in wanted))
            found.add(calls is None)
        self.assertEqual(found, {True, False})

    def test_edges_of_coming(self):
        # In STEP, the odds that are all r - 1 come just from r = 3 on.
        self.assertIsNone(short_lot(STEP, [2, (2, 1), [4, 2]]))
        self.same(short_lot(STEP, [(2 * FAR - 1, FAR)] * 3), (1, 2))
        self.assertIsNone(world_for(STEP, [(2 * FAR - 1, FAR)] * 3))
        self.same(calls_for(STEP, [2, 2, 2])[1][0], (0, 1))

    def test_one_lot_that_is_short(self):
        # In a web of two places just one of the two lots can be short.
        for takes, lot in (([[0, 3], [1, 0]], (0,)), ([[0, 1], [3, 0]], (1,))):
            self.same(short_lot(World(takes), [1, 1]), lot)
            self.assertIsNone(short_lot(World(takes), [2, 2]))

    def test_great_numbers(self):
        draw = random.Random(7)
        web = World(table(6, lambda i, j: BIG - 6 * i - j))
        for rows in ([FAR - k for k in range(6)], [draw.randrange(1, FAR) for _ in range(6)]):
            odds = [(row, draw.randrange(1, FAR)) for row in rows]
            since = perf_counter()
            calls, lot = calls_for(web, odds), short_lot(web, odds)
            self.assertLess(perf_counter() - since, 3)
            self.assertIs(calls is None, lot is not None)
            if calls is not None:
                self.assertIs(fits(world_for(web, odds), odds), True)
        even = World(table(6, lambda i, j: 1))
        odds = [(FAR - k, 3) for k in range(6)]
        self.assertIs(fits(world_for(even, odds), odds), True)


class LeastCounting(Checks):
    def test_definition(self):
        found = set()
        for web in odd_webs() + two_way_webs(3, 3, 5) + two_way_webs(4, 3, 6):
            told = self.told(least_counting(web))
            if not all(web.takes[j][i] for i, j in web.ties()):
                self.assertIsNone(told)
                found.add(None)
                continue
            t, quotients = web.takes, {}
            for lot in lots(web.size)[1:-1]:
                crossing = [(i, j) for i in lot for j in rest(lot, web.size)]
                quotients[lot] = Fraction(sum(t[i][j] for i, j in crossing), sum(t[j][i] for i, j in crossing))
            best, lot = told
            self.same(best, pair(max(quotients.values())))
            self.assertEqual(quotients[lot], Fraction(*best))
            self.assertGreaterEqual(Fraction(*best), 1)
            self.assertIs(best == (1, 1), is_even(t))
            found.add(best == (1, 1))
        self.assertEqual(found, {None, True, False})

    def test_equal_odds_come_from_there(self):
        for web in odd_webs() + two_way_webs(3, 3, 5):
            told = least_counting(web)
            if told is not None:
                r = Fraction(*told[0])
                for more in (Fraction(0), Fraction(1, 7)):
                    if r + more > 1:
                        self.assertIsNone(short_lot(web, [pair(r + more - 1)] * web.size))
                if r > 1:
                    self.assertIsNotNone(short_lot(web, [pair((r - 1) * Fraction(999, 1000))] * web.size))

    def test_plain(self):
        self.same(least_counting(World([[0, 3], [7, 0]])), ((7, 3), (1,)))
        self.assertIsNone(least_counting(TRIANGLE))


class Refused(Checks):
    calls = (short_lot, calls_for, world_for, lambda world, odds: needs(world, odds, None))

    def test_not_linked(self):
        for call in self.calls + (lambda world, odds: least_counting(world),):
            self.refused("NotLinked", (1, 2), call, SHUT, None)
            self.refused("NotLinked", (0,), call, SIX_SHUT, None)

    def test_odds(self):
        for call in self.calls:
            for odds in (None, 3, "111", (), [1, 1], (1, 1, 1, 1), {0: 1, 1: 1, 2: 1}, range(3)):
                self.refused("BadOdds", -1, call, TRIANGLE, odds)
            for entry in NO_FRACTION + (0, -1, (0, 3), (-1, 2)):
                self.refused("BadOdds", 1, call, TRIANGLE, [1, entry, entry])

    def test_lot(self):
        for lot, place in ((None, None), (1, None), ((0, 3), 3), ([1, 1], 1), ((True,), True)):
            self.refused("BadLot", place, needs, TRIANGLE, [1, 1, 1], lot)

    def test_arguments_stay(self):
        odds, lot = [2, [4, 2], (6, 3)], [2, 0]
        (needs(STEP, odds, lot), short_lot(STEP, odds), calls_for(STEP, odds), world_for(STEP, odds))
        self.assertEqual((odds, lot), ([2, [4, 2], (6, 3)], [2, 0]))


if __name__ == "__main__":
    unittest.main()
