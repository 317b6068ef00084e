"""Points 125 to 128: state visits, gains, and what a tie is worth."""

import unittest
from fractions import Fraction
from math import prod
from time import perf_counter

from copyrates.gains import best_tie, gain, tie_worth, visits_of
from copyrates.raising import helps
from copyrates.rises import call_worth
from copyrates.sandwich import border, strengths
from copyrates.shapes import line
from copyrates.slopes import Slopes
from copyrates.worlds import World, web_of, with_calls
from tests.kit import (
    BIG, Checks, fractions, lots, number_of_places, pair, path_web, ring_takes, solve, start_moves, table,
    wins_by_run
)
from tests.oddkit import SHUT, SIX_SHUT, calling_worlds, odd_webs, rule_row, say_row, some_odds

TRIANGLE = World(ring_takes(3))
PATH = World(path_web([0, 1, 2]))


def total(world):
    return sum(map(sum, world.takes)) + sum(map(sum, world.calls))


def visits_by_run(world, lot):
    """The state visits, as Fractions, by the equations of point 125."""
    mixed = lots(world.size)[1:-1]
    moves = {some: start_moves(world, some) for some in mixed}
    rows = []
    for some in mixed:
        row = [sum(moves[some].values()) if other == some else -moves[other].get(some, 0) for other in mixed]
        rows.append(row + [total(world) if some == lot else 0])
    found = dict(zip(mixed, solve(rows)))
    return {some: found.get(some, Fraction(0)) for some in lots(world.size)}


def trial_worlds(sizes=(2, 3)):
    return calling_worlds(sizes) + calling_worlds((4,))[::5] + [World([[0, 1], [2, 0]], calls=[[0, 0], [1, 0]])]


def visits_told(world, lot):
    return dict(zip(lots(world.size), fractions(visits_of(world, lot))))


def tie_sum(world, lot, rate):
    """The sum over the mixed lots S of their visits times the rates of the ties with i outside and j inside, over W."""
    visits = visits_told(world, lot)
    return sum(
        visits[some] * rate(i, j, some) for some in lots(world.size)[1:-1] for i, j in world.ties()
        if i not in some and j in some
    ) / total(world)


class Visits(Checks):
    def test_equations(self):
        for world in trial_worlds():
            for lot in lots(world.size):
                wanted = visits_by_run(world, lot)
                self.same(self.told(visits_of(world, lot[::-1])), tuple(pair(wanted[some]) for some in lots(world.size)))

    def test_no_lot_and_all(self):
        for world in trial_worlds((3,)):
            for lot in ((), tuple(range(world.size))):
                self.same(visits_of(world, lot), ((0, 1),) * (1 << world.size))

    def test_steps_until_alike(self):
        for world in trial_worlds((2, 3)):
            mixed = lots(world.size)[1:-1]
            rows = []
            for some in mixed:
                moves = start_moves(world, some)
                row = [sum(moves.values()) if other == some else -moves.get(other, 0) for other in mixed]
                rows.append(row + [total(world)])
            for lot, steps in zip(mixed, solve(rows)):
                self.assertEqual(sum(visits_told(world, lot).values()), steps)

    def test_plain(self):
        self.same(visits_of(World([[0, 1], [2, 0]]), (1,)), ((0, 1), (0, 1), (1, 1), (0, 1)))
        # On the ring each state stays for 3/2 steps and then goes on, or ends, with 1/2 each; six states go round.
        self.same(visits_of(TRIANGLE, (0,))[1], pair(Fraction(3, 2) / (1 - Fraction(1, 64))))

    def test_refused(self):
        for lot, place in ((None, None), (1, None), ((0, 3), 3), ([1, 1], 1), ((True,), True)):
            self.refused("BadLot", place, visits_of, TRIANGLE, lot)


class Sums(Checks):
    def test_call_worth(self):
        for world in trial_worlds():
            told, row = say_row(world), wins_by_run(world)
            lower, upper = fractions(strengths(world))
            for lot in lots(world.size):
                worth = row[lot] - sum(told[i] for i in lot)
                self.assertEqual(tie_sum(world, lot, lambda i, j, some: world.calls[i][j] * told[i]), worth)
                self.same(call_worth(world, lot), pair(worth))
                takes = tie_sum(world, lot, lambda i, j, some: told[i] ** 2 * world.takes[i][j])
                self.assertTrue(lower * takes <= worth <= upper * takes)

    def test_rules(self):
        for world in trial_worlds((2, 3)):
            odds = some_odds(world.size, 126)
            rule, row = rule_row(odds), wins_by_run(world)
            part = {lot: prod((1 / (1 + odds[i]) for i in lot), start=Fraction(1)) for lot in lots(world.size)}
            whole = 1 - part[tuple(range(world.size))]
            for lot in lots(world.size):
                visits = visits_told(world, lot)
                gap = sum(
                    visits[some] * Fraction(*border(world, list(map(pair, odds)), some)) * part[some]
                    for some in lots(world.size)[1:-1]
                ) / (whole * total(world))
                self.assertEqual(row[lot] - rule[lot], gap)


class Gain(Checks):
    def test_two_worlds(self):
        for world in trial_worlds():
            calls = table(world.size, lambda i, j: (i + 2 * j) % 3 if world.takes[i][j] else 0)
            for other in (with_calls(world, calls), web_of(world), world):
                row, others = wins_by_run(world), wins_by_run(other)
                for lot in lots(world.size):
                    wanted = others[lot] - row[lot]
                    self.same(self.told(gain(world, other, lot[::-1])), pair(wanted))
                    added = tie_sum(other, lot, lambda i, j, some: (other.calls[i][j] - world.calls[i][j])
                                    * (row[tuple(sorted(some + (i,)))] - row[some]))
                    self.assertEqual(added, wanted)

    def test_other_worlds(self):
        self.refused("OtherSize", 2, gain, SIX_SHUT, World([[0, 1], [1, 0]]), None)
        self.refused("OtherSize", 6, gain, SHUT, SIX_SHUT, None)
        self.refused("BadTie", (1, 0), gain, World([[0, 1], [1, 0]]), World([[0, 1], [2, 0]]), None)
        self.refused("BadTie", (0, 2), gain, SHUT, World([[0, 1, 1], [0, 0, 0], [0, 1, 0]]), None)
        self.refused("BadTie", (2, 4), gain, SIX_SHUT, World(table(6, lambda i, j: int((i, j) in ((2, 4), (4, 2))))), None)
        self.refused("TooMany", 6, gain, SIX_SHUT, SIX_SHUT, None)
        self.refused("NotLinked", (1, 2), gain, web_of(SHUT), SHUT, None)
        for lot, place in ((None, None), (1, None), ((0, 3), 3), ([1, 1], 1), ((True,), True)):
            self.refused("BadLot", place, gain, TRIANGLE, TRIANGLE, lot)


class Worth(Checks):
    def test_definition(self):
        for world in trial_worlds():
            row = wins_by_run(world)
            for lot in lots(world.size):
                visits = visits_by_run(world, lot)
                best = None
                for i, j in world.ties():
                    wanted = sum(
                        visits[some] * (row[tuple(sorted(some + (i,)))] - row[some])
                        for some in lots(world.size)[1:-1] if i not in some and j in some
                    ) / total(world)
                    self.same(self.told(tie_worth(world, [i, j], lot[::-1])), pair(wanted))
                    self.assertGreaterEqual(wanted, 0)
                    self.assertIs(wanted > 0, helps(world, (i, j), lot))
                    if best is None or wanted > best[1]:
                        best = ((i, j), wanted)
                if 0 < len(lot) < world.size:
                    self.same(self.told(best_tie(world, list(lot))), (best[0], pair(best[1])))
                    self.assertGreater(best[1], 0)
                    if line(world) is None:
                        self.assertTrue(all(tie_worth(world, tie, lot)[0] > 0 for tie in world.ties()))

    def test_first_order(self):
        k = 10 ** 9
        for world in trial_worlds((2, 3))[::2]:
            row, (i, j) = wins_by_run(world), world.ties()[-1]
            calls = [[k * entry for entry in line_of] for line_of in world.calls]
            calls[i][j] += 1
            more = wins_by_run(World([[k * entry for entry in line_of] for line_of in world.takes], calls=calls))
            for lot in lots(world.size):
                worth = Fraction(*tie_worth(world, (i, j), lot))
                self.assertLess(abs((more[lot] - row[lot]) * k - worth), Fraction(1, 10 ** 6))

    def test_steady(self):
        for web in odd_webs((2, 3, 4)):
            slopes = Slopes(web)
            for lot in lots(web.size)[:: 1 if web.size < 4 else 3]:
                for tie in web.ties():
                    self.same(tie_worth(web, tie, lot), slopes.of_tie(tie, lot))

    def test_least_of_several(self):
        # On a path with one grade 1 in the middle both ends gain alike; on the ring of all takes 1 all ties out do.
        self.same(best_tie(PATH, (1,)), ((0, 1), tie_worth(PATH, (2, 1), (1,))))
        even = World(table(3, lambda i, j: 1))
        self.same(best_tie(even, (2,)), ((0, 2), tie_worth(even, (1, 2), (2,))))

    def test_refused(self):
        for tie in (None, 3, "01", (0,), (0, 1, 2), (0, 2), (1, 1), (0, 3), (-1, 0), (True, 2), [0, None]):
            self.refused("BadTie", tie, tie_worth, TRIANGLE, tie, None)
        for lot, place in ((None, None), (1, None), ((0, 3), 3), ([1, 1], 1), ((True,), True)):
            self.refused("BadLot", place, tie_worth, TRIANGLE, (0, 1), lot)
            self.refused("BadLot", place, best_tie, TRIANGLE, lot)
        for lot in ((), [2, 1, 0]):
            self.refused("BadLot", None, best_tie, TRIANGLE, lot)
            self.same(tie_worth(TRIANGLE, (0, 1), lot), (0, 1))

    def test_world_first(self):
        for call in (visits_of, best_tie, lambda world, lot: tie_worth(world, None, lot)):
            for world in (SIX_SHUT, World(ring_takes(6))):
                self.refused("TooMany", 6, call, world, None)
            self.refused("NotLinked", (1, 2), call, SHUT, None)

    def test_arguments_stay(self):
        tie, lot = [0, 1], [2, 0]
        (visits_of(TRIANGLE, lot), tie_worth(TRIANGLE, tie, lot), best_tie(TRIANGLE, lot), gain(TRIANGLE, TRIANGLE, lot))
        self.assertEqual((tie, lot), ([0, 1], [2, 0]))

    def test_greatest(self):
        world = World(table(5, lambda i, j: BIG - 6 * i - j), calls=table(5, lambda i, j: BIG if i < j else 1))
        since = perf_counter()
        visits = visits_of(world, (0, 3))
        best, worth = best_tie(world, (0, 3))
        self.assertLess(perf_counter() - since, 3)
        self.assertEqual(len(visits), 32)
        self.assertEqual((visits[0], visits[-1]), ((0, 1), (0, 1)))
        self.assertGreater(Fraction(*visits[number_of_places((0, 3))]), 1)
        more = with_calls(world, table(5, lambda i, j: world.calls[i][j] + (1 if (i, j) == best else 0)))
        rise = Fraction(*gain(world, more, (0, 3)))
        self.assertLess(abs(rise / Fraction(*worth) - 1), Fraction(1, 10 ** 9))


if __name__ == "__main__":
    unittest.main()
