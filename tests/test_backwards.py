"""Points 97, 98 and 105: the turned web, the turned world, and jury steps backwards."""

import unittest
from fractions import Fraction

from copyrates.backwards import backwards_gap, turned, turned_web
from copyrates.byfactors import by_factors
from copyrates.naturals import natural, strength_of
from copyrates.reshaping import left_out
from copyrates.sayrows import flow, says
from copyrates.shapes import fair_break
from copyrates.toldback import same_wins
from copyrates.worlds import World, web_of
from tests.kit import (
    BIG, Checks, back_moves, equal_up_to_factor, fractions, lots, pair, rest, ring_takes, some_linked, table, union
)
from tests.oddkit import (
    SHUT, SIX_SHUT, calling_worlds, exact_world, flow_rows, natural_world, nu_row, odd_webs, say_row, sided_webs
)

TRIANGLE = World(ring_takes(3))


def turned_takes(web):
    """The exact takes of the turned web, as Fractions."""
    told = say_row(web)
    return table(web.size, lambda i, j: told[j] * web.takes[j][i] / told[i])


def turned_exactly(world, q):
    e = flow_rows(world)
    return turned_takes(world), table(world.size, lambda i, j: q * e[j][i])


def step_chances(world, many):
    """For each lot but () the chances of the lots to which so many jury steps lead from it."""
    total = sum(map(sum, world.takes)) + sum(map(sum, world.calls))
    rows = {lot: {lot: Fraction(1)} for lot in lots(world.size)[1:]}
    for _ in range(many):
        further = {}
        for lot, row in rows.items():
            further[lot] = {}
            for reached, chance in row.items():
                moves = back_moves(world, reached)
                moves[reached] = total - sum(moves.values())
                for other, rate in moves.items():
                    further[lot][other] = further[lot].get(other, 0) + chance * Fraction(rate, total)
        rows = further
    return rows


class TurnedWeb(Checks):
    def test_rates(self):
        for web in odd_webs():
            made, wanted = turned_web(web), exact_world(turned_takes(web))
            self.assertIsInstance(made, World)
            self.told((made.takes, made.calls))
            self.same((made.takes, made.calls), (wanted.takes, wanted.calls))

    def test_takes_alone(self):
        for world in calling_worlds():
            self.assertEqual(turned_web(world), turned_web(web_of(world)))

    def test_says_and_flow(self):
        for web in odd_webs():
            made = turned_web(web)
            self.same(says(made), says(web))
            factor = Fraction(sum(map(sum, made.takes))) / sum(map(sum, turned_takes(web)))
            flows = [fractions(row) for row in flow(made)]
            self.assertEqual(flows, [list(row) for row in zip(*[[factor * e for e in row] for row in flow_rows(web)])])

    def test_turned_twice(self):
        for web in odd_webs():
            self.assertTrue(equal_up_to_factor(turned_web(turned_web(web)), web))

    def test_equal_exactly_if_fair(self):
        found = set()
        for web in odd_webs() + sided_webs():
            fair = fair_break(web) is None
            self.assertIs(equal_up_to_factor(turned_web(web), web), fair)
            found.add(fair)
        self.assertEqual(found, {True, False})

    def test_left_out(self):
        for web in odd_webs((3, 4, 5, 6)):
            for v in range(web.size):
                self.assertTrue(equal_up_to_factor(left_out(turned_web(web), v), turned_web(left_out(web, v))))

    def test_plain(self):
        self.same(turned_web(TRIANGLE).takes, ((0, 0, 1), (1, 0, 0), (0, 1, 0)))
        # The takes are not divided, even where all of them are even.
        self.same(turned_web(World([[0, 4], [6, 0]])).takes, ((0, 4), (6, 0)))

    def test_not_linked(self):
        for call in (turned_web, turned):
            self.refused("NotLinked", (1, 2), call, SHUT)
            self.refused("NotLinked", (0,), call, SIX_SHUT)


class Turned(Checks):
    def test_rates(self):
        for web in odd_webs():
            for q in (Fraction(2), Fraction(5, 7)):
                world = natural(web, pair(q))
                made, wanted = turned(world), exact_world(*turned_exactly(world, q))
                self.assertIsInstance(made, World)
                self.same((made.takes, made.calls), (wanted.takes, wanted.calls))
                self.same(strength_of(made), pair(q))
                if web.size < 5:
                    self.assertIs(same_wins(made, world), True)

    def test_none(self):
        found = set()
        for world in calling_worlds((2, 3, 4, 5)):
            self.assertIs(turned(world) is None, strength_of(world) is None)
            found.add((turned(world) is None, world.steady))
        self.assertEqual(found, {(False, False), (True, False), (True, True)})

    def test_sum(self):
        for web in odd_webs((2, 3, 4)):
            q = Fraction(5, 3)
            world = natural(web, pair(q))
            takes, calls = turned_exactly(world, q)
            both = exact_world(
                table(web.size, lambda i, j: world.takes[i][j] + takes[i][j]),
                table(web.size, lambda i, j: world.calls[i][j] + calls[i][j]),
            )
            self.same(strength_of(both), pair(q))
            self.assertIsNone(fair_break(both))
            self.assertIs(same_wins(both, world), True)

    def test_steps_backwards(self):
        for web in odd_webs((2, 3)):
            world = natural_world(web, Fraction(3, 2))
            other, nu, told = turned(world), nu_row(world), say_row(web)
            for many in (1, 2, 3):
                ahead, behind = step_chances(world, many), step_chances(other, many)
                # Both worlds have one total rate only up to a factor, so the steps of one size are compared.
                self.assertEqual(
                    Fraction(sum(map(sum, other.takes)), sum(map(sum, other.calls))),
                    Fraction(sum(map(sum, world.takes)), sum(map(sum, world.calls))),
                )
                for one in nu:
                    for goal in nu:
                        left, right = ahead[one].get(goal, 0), behind[goal].get(one, 0)
                        self.assertEqual(nu[one] * left, nu[goal] * right)
                        odds = [
                            Fraction(3, 2) ** len(lot) * product_of([told[i] for i in lot]) for lot in (one, goal)
                        ]
                        self.assertEqual(odds[0] * left, odds[1] * right)


def product_of(row):
    worth = Fraction(1)
    for entry in row:
        worth *= entry
    return worth


class Gap(Checks):
    def wanted(self, world):
        nu = nu_row(world)
        for i, j in world.ties():
            for k in rest((i, j), world.size):
                if nu[union((i,), (k,))] * nu[(j,)] != nu[union((j,), (k,))] * nu[(i,)]:
                    return ("pair", (i, j), k)
        for i, j in world.ties():
            if world.calls[i][j] * nu[(j,)] != world.takes[i][j] * nu[union((i,), (j,))]:
                return ("call", (i, j))
        return None

    def trial_worlds(self):
        found = calling_worlds() + [World([[0, 1], [2, 0]], calls=[[0, 0], [1, 0]])]
        found.extend(by_factors(web, [(10, 9)] * web.size) for web in sided_webs((2, 3, 4)))
        # Equal odds, but calls that no natural world has.
        found.append(World(table(3, lambda i, j: 2), calls=[[0, 3, 1], [1, 0, 3], [3, 1, 0]]))
        for web in sided_webs((3, 4)):
            told = say_row(web)
            near = [i for i in range(web.size) if web.takes[0][i] == 0]
            factors = [Fraction(9, 8) + 12 * s if i in near else (1 + 12 * s) / Fraction(9, 8) for i, s in enumerate(told)]
            found.append(by_factors(web, list(map(pair, factors))))
        return found

    def test_witness(self):
        found = set()
        for world in self.trial_worlds():
            wanted = self.wanted(world)
            self.same(self.told(backwards_gap(world)), wanted)
            self.assertIs(wanted is None, world.steady or strength_of(world) is not None)
            found.add(wanted and wanted[0])
        self.assertEqual(found, {None, "pair", "call"})

    def test_two_places(self):
        for world in some_linked(2, 30, 98, zeros=0):
            gap = backwards_gap(world)
            natural_one = world.steady or strength_of(world) is not None
            self.assertIs(gap is None, natural_one)
            if gap:
                self.assertEqual(gap, ("call", gap[1]))

    def test_five_places(self):
        for web in odd_webs((5,)):
            self.assertIsNone(backwards_gap(natural(web, (7, 4))))
        world = World(table(5, lambda i, j: BIG - 6 * i - j), calls=table(5, lambda i, j: BIG if i < j else 1))
        self.same(backwards_gap(world), ("pair", (0, 1), 2))
        self.same(backwards_gap(World(ring_takes(5), calls=table(5, lambda i, j: int((i, j) == (4, 0))))),
                  self.wanted(World(ring_takes(5), calls=table(5, lambda i, j: int((i, j) == (4, 0))))))

    def test_world_first(self):
        self.refused("TooMany", 6, backwards_gap, SIX_SHUT)
        self.refused("TooMany", 6, backwards_gap, World(ring_takes(6)))
        self.refused("NotLinked", (1, 2), backwards_gap, SHUT)


if __name__ == "__main__":
    unittest.main()
