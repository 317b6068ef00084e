"""Points 92, 93 and 105: independent worlds, pair gaps and place gaps."""

import unittest
from fractions import Fraction

from copyrates.coming import world_for
from copyrates.independent import fits, odds_of, pair_gap, place_gap
from copyrates.juries import Jury
from copyrates.naturals import natural
from copyrates.rules import Rule
from copyrates.wins import win, win_row
from copyrates.worlds import World, with_calls
from tests.kit import BIG, Checks, lots, pair, ring_takes, some_linked, table
from tests.oddkit import (
    FAR, NO_FRACTION, SHUT, SIX_SHUT, calling_worlds, natural_world, odd_webs, odds_by_jury, rule_row,
    some_odds, terms, worths
)

TWO = World([[0, 1], [2, 0]], calls=[[0, 0], [1, 0]])
TRIANGLE = World(ring_takes(3))


def gap_of_pair(world, o, i, j):
    t, c = world.takes, world.calls
    return (
        o[i] / (1 + o[i]) * (o[i] * t[i][j] - c[i][j]) + o[j] / (1 + o[j]) * (o[j] * t[j][i] - c[j][i])
    )


def gap_of_place(world, o, j):
    t, c, places = world.takes, world.calls, range(world.size)
    return sum((t[i][j] + c[i][j]) * o[i] / (1 + o[i]) for i in places) - o[j] * sum(t[j][i] for i in places)


def independent_worlds():
    """Pairs of a world and the odds with which it is independent."""
    found = []
    for web in odd_webs((2, 3, 4)):
        world = natural_world(web, Fraction(5, 2))
        found.append((world, odds_by_jury(world)))
    for web in odd_webs((3, 4)):
        for odds in ([Fraction(1)] * web.size, some_odds(web.size, 5), some_odds(web.size, 6)):
            world = world_for(web, [pair(40 * odd) for odd in odds])
            if world is not None:
                found.append((world, [40 * odd for odd in odds]))
    return found


class OddsOf(Checks):
    def test_by_the_jury(self):
        found = set()
        for world in calling_worlds() + [TWO]:
            wanted = odds_by_jury(world)
            self.same(self.told(odds_of(world)), wanted and tuple(map(pair, wanted)))
            found.add((wanted is None, world.steady))
        self.assertEqual(found, {(False, False), (True, False), (True, True)})

    def test_independent_worlds(self):
        for world, odds in independent_worlds():
            self.same(odds_of(world), tuple(map(pair, odds)))
            row = rule_row(odds)
            self.same(win_row(world), tuple(pair(row[lot]) for lot in lots(world.size)))
            self.assertIs(fits(world, list(map(pair, odds))), True)

    def test_two_places(self):
        for world in [TWO] + [w for w in some_linked(2, 40, 92, zeros=0) if not w.steady]:
            odds = odds_of(world)
            self.assertIsNotNone(odds)
            self.assertIs(fits(world, odds), True)
        self.same(odds_of(TWO), ((1, 3), (1, 8)))
        self.same(odds_of(World([[0, BIG], [1, 0]], calls=[[0, 1], [0, 0]])), odds_of(
            World([[0, 2 * BIG], [2, 0]], calls=[[0, 2], [0, 0]])))

    def test_steady(self):
        for web in odd_webs((2, 3, 4, 5)):
            self.assertIsNone(odds_of(web))

    def test_five_places(self):
        for web in odd_webs((5,)):
            made = natural(web, (7, 4))
            odds = odds_of(made)
            self.same(tuple(Rule(odds)(lot) for lot in lots(5)), win_row(made))
            i, j = made.calling()[0]
            calls = [list(row) for row in made.calls]
            calls[i][j] += 1
            self.assertIsNone(odds_of(with_calls(made, calls)))

    def test_one_way_ties(self):
        many = 0
        for world, odds in independent_worlds():
            for i, j in world.ties():
                if world.takes[j][i] == 0:
                    self.assertEqual(world.calls[i][j], odds[i] * world.takes[i][j])
                    many += 1
        self.assertGreater(many, 10)

    def test_great_rates(self):
        web = World(table(5, lambda i, j: BIG - 6 * i - j))
        made = natural(web, (BIG, BIG - 1))
        self.same(tuple(Rule(odds_of(made))(lot) for lot in lots(5)[1:4]), win_row(made)[1:4])
        self.assertIsNone(odds_of(World(web.takes, calls=table(5, lambda i, j: BIG if i < j else 1))))


class Gaps(Checks):
    def trials(self):
        for world in calling_worlds() + odd_webs((2, 5, 6)) + [TWO]:
            for k in range(2):
                yield world, some_odds(world.size, world.size + k)
        yield World(table(6, lambda i, j: BIG - i), calls=table(6, lambda i, j: BIG)), worths([(FAR, 3)] * 3 + [(1, FAR)] * 3)
        yield TWO, worths([(1, 3), (1, 8)])

    def test_definition(self):
        for world, odds in self.trials():
            told = [terms(odd, 3) for odd in odds]
            every = []
            for j in range(world.size):
                every.append(gap_of_place(world, odds, j))
                self.same(self.told(place_gap(world, told, j)), pair(every[-1]))
                for i in range(world.size):
                    if i != j:
                        every.append(gap_of_pair(world, odds, i, j))
                        self.same(self.told(pair_gap(world, tuple(told), i, j)), pair(every[-1]))
            self.assertIs(fits(world, told), not world.steady and not any(every))

    def test_plain(self):
        # Place 1 draws with 1/2, place 0 with 1/2: the gaps are 1/2 * (1 - 0) + 1/2 * (2 - 1) and so on.
        self.same(pair_gap(TWO, [1, 1], 0, 1), (1, 1))
        self.same(pair_gap(TWO, [1, 1], 1, 0), (1, 1))
        self.same(place_gap(TWO, [1, 1], 0), (1, 2))
        self.same(place_gap(TWO, [1, 1], 1), (-3, 2))
        self.same([place_gap(TWO, [(1, 3), (1, 8)], j) for j in (0, 1)], [(0, 1), (0, 1)])
        self.same(pair_gap(TRIANGLE, [2, 1, 1], 0, 2), (1, 2))

    def test_fits_by_the_jury(self):
        found = set()
        for world in calling_worlds() + [TWO]:
            own = odds_by_jury(world)
            for odds in [own or [Fraction(1)] * world.size, some_odds(world.size, 3)]:
                self.assertIs(fits(world, list(map(pair, odds))), own is not None and odds == own)
                found.add(own is not None and odds == own)
        self.assertEqual(found, {True, False})

    def test_one_kind_of_gaps_alone(self):
        takes = table(3, lambda i, j: 1)
        # All place gaps are 0, but not the pair gap of 0 and 1; then all pair gaps are, but not the place gap of 0.
        for calls in ([[0, 2, 1], [2, 0, 1], [0, 0, 0]], [[0, 2, 1], [0, 0, 1], [1, 1, 0]]):
            world = World(takes, calls=calls)
            self.assertIs(fits(world, [1, 1, 1]), False)
            self.assertIsNone(odds_of(world))
        world = World(takes, calls=[[0, 2, 1], [2, 0, 1], [0, 0, 0]])
        self.same([place_gap(world, [1, 1, 1], j) for j in range(3)], [(0, 1)] * 3)
        world = World(takes, calls=[[0, 2, 1], [0, 0, 1], [1, 1, 0]])
        self.same([pair_gap(world, [1, 1, 1], i, j) for i, j in ((0, 1), (0, 2), (1, 2))], [(0, 1)] * 3)

    def test_gaps_of_a_steady_world(self):
        # Calls of 0 on a web: no odds fit, whatever the gaps.
        for web in odd_webs((2, 3)):
            self.assertIs(fits(web, [1] * web.size), False)


class GreaterOdds(Checks):
    def test_ratios(self):
        many = 0
        for world, odds in independent_worlds():
            jury = Jury(world)
            for i in range(world.size):
                for j in range(world.size):
                    if odds[i] > odds[j]:
                        wins = Fraction(*win(world, (i,))) / Fraction(*win(world, (j,)))
                        shares = Fraction(*jury.share(i)) / Fraction(*jury.share(j))
                        self.assertTrue(1 < wins < shares < odds[i] / odds[j])
                        many += 1
        self.assertGreater(many, 20)


class Refused(Checks):
    def test_world_first(self):
        self.refused("TooMany", 6, odds_of, SIX_SHUT)
        self.refused("TooMany", 6, odds_of, World(ring_takes(6)))
        self.refused("NotLinked", (1, 2), odds_of, SHUT)
        for call in (lambda world: fits(world, None), lambda world: pair_gap(world, None, None, None),
                     lambda world: place_gap(world, None, None)):
            self.refused("NotLinked", (1, 2), call, SHUT)
            self.refused("NotLinked", (0,), call, SIX_SHUT)

    def test_odds(self):
        for call in (fits, lambda world, odds: pair_gap(world, odds, None, None),
                     lambda world, odds: place_gap(world, odds, None)):
            for odds in (None, 3, "111", (), [1, 1], (1, 1, 1, 1), {0: 1, 1: 1, 2: 1}, range(3)):
                self.refused("BadOdds", -1, call, TRIANGLE, odds)
            for entry in NO_FRACTION + (0, -1, (0, 3), (-1, 2)):
                self.refused("BadOdds", 1, call, TRIANGLE, [1, entry, entry])

    def test_places(self):
        for place in (-1, 3, True, None, "0", (0,)):
            self.refused("BadPlace", place, pair_gap, TRIANGLE, [1, 1, 1], place, place)
            self.refused("BadPlace", place, pair_gap, TRIANGLE, [1, 1, 1], place, 0)
            self.refused("BadPlace", place, pair_gap, TRIANGLE, [1, 1, 1], 0, place)
            self.refused("BadPlace", place, place_gap, TRIANGLE, [1, 1, 1], place)
        self.refused("BadPlace", 2, pair_gap, TRIANGLE, [1, 1, 1], 2, 2)

    def test_arguments_stay(self):
        odds = [1, [1, 2], (3, 6)]
        (fits(TRIANGLE, odds), pair_gap(TRIANGLE, odds, 0, 1), place_gap(TRIANGLE, odds, 0))
        self.assertEqual(odds, [1, [1, 2], (3, 6)])


if __name__ == "__main__":
    unittest.main()
