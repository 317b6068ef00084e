"""Points 94, 95 and 105: natural worlds, their strength and their rule."""

import unittest
from fractions import Fraction

from copyrates.even import is_even, rings_of
from copyrates.independent import odds_of
from copyrates.juries import Jury
from copyrates.naturals import natural, natural_rule, strength_of
from copyrates.reshaping import glued, left_out
from copyrates.rules import NaturalRule
from copyrates.sayrows import flow, says
from copyrates.toldback import same_wins
from copyrates.wins import win_row
from copyrates.worlds import World, web_of, with_calls
from tests.kit import BIG, Checks, equal_up_to_factor, fractions, lots, pair, ring_takes, some_linked, table
from tests.oddkit import (
    FAR, NO_FRACTION, SHUT, calling_worlds, exact_world, flow_rows, natural_row, natural_world, odd_webs, say_row,
    some_odds, terms
)

STRENGTHS = (Fraction(1), Fraction(3, 2), Fraction(1, 7), Fraction(BIG, 3))


class Natural(Checks):
    def test_rates(self):
        for web in odd_webs():
            for q in STRENGTHS:
                made = natural(web, pair(q))
                self.assertIsInstance(made, World)
                wanted = natural_world(web, q)
                self.told((made.takes, made.calls))
                self.same((made.takes, made.calls), (wanted.takes, wanted.calls))
                self.same(strength_of(made), pair(q))
                self.assertEqual(natural(web, terms(q, 6)), made)

    def test_takes_alone(self):
        for world in calling_worlds():
            self.assertEqual(natural(world, 2), natural(web_of(world), 2))
            self.assertTrue(natural_rule(world, 2) == natural_rule(web_of(world), (4, 2)))

    def test_plain(self):
        made = natural(World([[0, 1], [2, 0]]), 3)
        self.same((made.takes, made.calls), (((0, 1), (2, 0)), ((0, 2), (2, 0))))
        made = natural(World([[0, 3], [3, 0]]), (1, 3))
        self.same((made.takes, made.calls), (((0, 6), (6, 0)), ((0, 1), (1, 0))))

    def test_far_numbers(self):
        web = World([[0, BIG, 1], [BIG - 1, 0, 7], [3, BIG - 2, 0]])
        q = Fraction(FAR, FAR - 2)
        self.same(strength_of(natural(web, pair(q))), pair(q))

    def test_wins_are_the_rule(self):
        for web in odd_webs((2, 3, 4)) + odd_webs((5,))[:2]:
            for q in STRENGTHS[1:3]:
                made, rule = natural(web, pair(q)), natural_rule(web, pair(q))
                self.assertIsInstance(rule, NaturalRule)
                self.same((rule.says, rule.strength), (says(web), pair(q)))
                row = natural_row(web, q)
                self.same(win_row(made), tuple(pair(row[lot]) for lot in lots(web.size)))
                self.same(win_row(made), tuple(rule(lot) for lot in lots(web.size)))
                self.same(odds_of(made), tuple(pair(q * say) for say in say_row(web)))
                jury = Jury(made)
                self.same([rule.sized(k + 1) for k in range(web.size)], [jury.sized(k + 1) for k in range(web.size)])

    def test_same_wins(self):
        made = [natural(web, pair(q)) for web in odd_webs((3,))[:5] for q in STRENGTHS[:2]]
        # Three webs with the same says.
        made.extend(natural(web, 1) for web in (World(ring_takes(3)), World(table(3, lambda i, j: 7)),
                                                World([[0, 0, 1], [1, 0, 0], [0, 1, 0]])))
        found = set()
        for one in made:
            for other in made:
                wanted = says(one) == says(other) and strength_of(one) == strength_of(other)
                self.assertIs(same_wins(one, other), wanted)
                found.add(wanted)
        self.assertEqual(found, {True, False})

    def test_even_table_and_odds(self):
        for size in (2, 3, 4, 5, 6):
            for seed, web in enumerate(odd_webs((size,))[:4]):
                b, odds = flow_rows(web), some_odds(size, 94 + seed)
                made = exact_world([[entry / odd for entry in row] for odd, row in zip(odds, b)], b)
                self.same(strength_of(made), pair(sum(odds)))
                self.same(says(made), tuple(pair(odd / sum(odds)) for odd in odds))
                if size < 5:
                    self.same(odds_of(made), tuple(map(pair, odds)))
                # Every natural world is of this kind.
                self.assertTrue(is_even(made.calls))
                self.assertTrue(equal_up_to_factor(natural(made, pair(sum(odds))), made))

    def test_refused(self):
        self.refused("NotLinked", (1, 2), natural, SHUT, None)
        self.refused("NotLinked", (1, 2), natural_rule, SHUT, None)
        for call in (natural, natural_rule):
            for strength in NO_FRACTION + (0, -1, (0, 3), (-1, 2)):
                self.refused("BadFraction", "strength", call, World(ring_takes(3)), strength)


class StrengthOf(Checks):
    def test_not_natural(self):
        found = set()
        for world in calling_worlds((2, 3, 4, 5)):
            flows = flow_rows(world)
            ratios = {Fraction(world.calls[i][j]) / flows[i][j] for i, j in world.ties()}
            wanted = pair(ratios.pop()) if len(ratios) == 1 else None
            wanted = None if world.steady else wanted
            self.same(self.told(strength_of(world)), wanted)
            found.add(wanted is None)
        self.assertEqual(found, {True, False})

    def test_steady(self):
        for web in odd_webs():
            self.assertIsNone(strength_of(web))

    def test_one_call_apart(self):
        for web in odd_webs((3, 4, 5, 6)):
            made = natural(web, 2)
            for i, j in made.ties()[:3]:
                calls = [list(row) for row in made.calls]
                calls[i][j] += 1
                self.assertIsNone(strength_of(with_calls(made, calls)))
                calls[i][j] = 0
                self.assertIsNone(strength_of(with_calls(made, calls)))

    def test_factor_plays_no_part(self):
        made = natural(World([[0, 1, 2], [1, 0, 0], [3, 1, 0]]), (7, 3))
        self.same(strength_of(made * 12), (7, 3))

    def test_not_linked(self):
        self.refused("NotLinked", (1, 2), strength_of, SHUT)
        self.refused("NotLinked", (0,), strength_of, World([[0] * 6] * 6))


class StayNatural(Checks):
    def test_left_out(self):
        for web in odd_webs((3, 4)) + odd_webs((5,))[:2]:
            q, told = Fraction(5, 3), say_row(web)
            old = fractions(win_row(natural(web, pair(q))))
            for v in range(web.size):
                kept = [i for i in range(web.size) if i != v]
                made = natural(left_out(web, v), pair(q * (1 - told[v])))
                self.same(odds_of(made), tuple(pair(q * told[i]) for i in kept))
                row = fractions(win_row(made))
                for lot in lots(web.size - 1):
                    spot = sum(1 << kept[i] for i in lot)
                    self.assertEqual(row[sum(1 << i for i in lot)], old[spot] / old[-1 - (1 << v)])

    def test_glued(self):
        for one, other in ((a, b) for a in odd_webs((2, 3))[:5] for b in odd_webs((3,))[2:5]):
            p, u, q = say_row(one), say_row(other), Fraction(4, 3)
            v, w = one.size - 1, 1
            far = q * p[v] / u[w]
            web = glued(one, other, v, w)
            strength = q * p[v] / say_row(web)[v]
            odds = [q * say for say in p] + [far * say for at, say in enumerate(u) if at != w]
            self.same(odds_of(natural(web, pair(strength))), tuple(map(pair, odds)))

    def test_sums_of_rings(self):
        for web in odd_webs((3, 4, 5)):
            q, told = Fraction(3, 4), say_row(web)
            takes, calls = [table(web.size, lambda i, j: Fraction(0)) for _ in range(2)]
            for ring, weight in rings_of(flow(web)):
                for at, i in enumerate(ring):
                    j = ring[(at + 1) % len(ring)]
                    takes[i][j] += Fraction(*weight) / told[i]
                    calls[i][j] += q * Fraction(*weight)
            self.assertTrue(equal_up_to_factor(exact_world(takes, calls), natural(web, pair(q))))

    def test_even_table_added(self):
        for size in (3, 4, 5):
            other = flow_rows(some_linked(size, 14, 5 * size, zeros=1, calls=False)[0])
            for web in odd_webs((size,))[:4]:
                q, told, e = Fraction(3, 4), say_row(web), flow_rows(web)
                takes = table(size, lambda i, j: web.takes[i][j] + other[i][j] / told[i])
                calls = table(size, lambda i, j: q * e[i][j] + q * other[i][j])
                made = exact_world(takes, calls)
                self.same((strength_of(made), says(made)), (pair(q), says(web)))


if __name__ == "__main__":
    unittest.main()
