"""Points 34 to 36, 38, 39 and 41: webs from flows, made whole, slowed, left out, glued, and ring webs."""

import random
import unittest
from fractions import Fraction
from math import lcm

from copyrates.even import rings_of
from copyrates.linking import is_linked, shut_lot
from copyrates.reshaping import from_flow, glued, left_out, ring_web, slowed
from copyrates.sayrows import flow, says
from copyrates.worlds import World, web_of, with_calls
from tests.kit import (
    BIG, NO_WHOLE, Checks, equal_up_to_factor, fractions, linked, pair, path_web, ring_takes, some_linked, table
)

SHUT = World([[0, 1, 0], [0, 0, 1], [0, 1, 0]], calls=[[0, 1, 0], [0, 0, 0], [0, 0, 0]])
CALLING = World([[0, 1, 1], [1, 0, 1], [1, 1, 0]], calls=[[0, 0, 0], [0, 0, 1], [1, 0, 0]])
TRIANGLE = World(ring_takes(3))
NO_FRACTION = (True, None, "1", 1.5, (1,), (1, 0), (1, -1), (1, 2, 3), [1, True], (0.5, 1), {1: 2})


def trial_webs(sizes=(2, 3, 4, 5, 6)):
    found = []
    for size in sizes:
        found.extend(some_linked(size, 14, 11 * size, zeros=size - 1, calls=False)[:5])
        found.append(World(ring_takes(size)))
        found.append(World(table(size, lambda i, j: BIG - 6 * i - j)))
    found.extend([World([[0, BIG], [1, 0]]), World(path_web([2, 0, 3, 1]))])
    return [world for world in found if world.size in sizes]


def wholes(rows):
    """The table of exact rates times the least number that makes all whole."""
    common = lcm(*[Fraction(entry).denominator for row in rows for entry in row])
    return tuple(tuple(int(entry * common) for entry in row) for row in rows)


def some_says(size, seed, top=9):
    draw = random.Random(seed)
    parts = [draw.randrange(1, top) for _ in range(size)]
    return [Fraction(part, sum(parts)) for part in parts]


class LeftOut(Checks):
    def exact(self, world, v):
        t, out = world.takes, sum(world.takes[v])
        kept = [i for i in range(world.size) if i != v]
        return [[0 if i == j else t[i][j] + Fraction(t[i][v] * t[v][j], out) for j in kept] for i in kept]

    def test_rates_made_whole(self):
        for world in trial_webs((3, 4, 5, 6)):
            for v in range(world.size):
                web = left_out(world, v)
                self.assertIsInstance(web, World)
                self.same(web.takes, wholes(self.exact(world, v)))
                self.assertTrue(web.steady)

    def test_says(self):
        for world in trial_webs((3, 4, 5, 6)):
            worth = fractions(says(world))
            for v in range(world.size):
                web = left_out(world, v)
                self.assertTrue(linked(web))
                kept = [worth[i] / (1 - worth[v]) for i in range(world.size) if i != v]
                self.same(says(web), tuple(map(pair, kept)))

    def test_either_order(self):
        for world in trial_webs((4, 5, 6)):
            for v in range(world.size):
                for u in range(v):
                    one, other = left_out(left_out(world, v), u), left_out(left_out(world, u), v - 1)
                    self.assertTrue(equal_up_to_factor(one, other))

    def test_plain(self):
        world = World([[0, 1, 0], [0, 0, 2], [3, 1, 0]])
        self.same(left_out(world, 0).takes, ((0, 2), (4, 0)))
        self.same(left_out(world, 1).takes, ((0, 1), (3, 0)))
        self.same(left_out(World([[0, 0, 6], [0, 0, 1], [2, 1, 0]]), 2).takes, ((0, 6), (2, 0)))
        self.same(left_out(World([[0, 4, 0], [0, 0, 6], [8, 0, 0]]), 2).takes, ((0, 4), (6, 0)))

    def test_refused(self):
        for place in (0, None, 7):
            self.refused("TooMany", 2, left_out, World([[0, 1], [0, 0]], calls=[[0, 1], [0, 0]]), place)
            self.refused("NotLinked", (1, 2), left_out, SHUT, place)
            self.refused("HasCalls", (1, 2), left_out, CALLING, place)
        for place in (-1, 3, True, None, "0", (0,), 1.0):
            self.refused("BadPlace", place, left_out, TRIANGLE, place)


class Glued(Checks):
    def pairs(self):
        webs = trial_webs((2, 3, 4, 5))
        return [(one, other) for one in webs[::2] for other in webs[::3] if one.size + other.size < 8]

    def test_ties(self):
        for one, other in self.pairs():
            for v in range(one.size):
                for u in range(other.size):
                    web = glued(one, other, v, u)
                    order = [k for k in range(other.size) if k != u]
                    name = {k: one.size + at for at, k in enumerate(order)} | {u: v}
                    rows = [[0] * (one.size + other.size - 1) for _ in range(one.size + other.size - 1)]
                    for i, j in one.ties():
                        rows[i][j] += one.takes[i][j]
                    for i, j in other.ties():
                        rows[name[i]][name[j]] += other.takes[i][j]
                    self.same(web.takes, tuple(map(tuple, rows)))
                    self.assertTrue(web.steady)
                    a, b = fractions(says(one)), fractions(says(other))
                    parts = a + [b[k] * a[v] / b[u] for k in order]
                    self.same(says(web), tuple(pair(part / sum(parts)) for part in parts))

    def test_plain(self):
        web = glued(World([[0, 4], [6, 0]]), World([[0, 2, 0], [0, 0, 8], [4, 0, 0]]), 0, 1)
        self.same(web.takes, ((0, 4, 0, 8), (6, 0, 0, 0), (2, 0, 0, 0), (0, 0, 4, 0)))

    def test_refused(self):
        none = World([[0] * 4] * 4)
        for other in (none, World(ring_takes(4), calls=ring_takes(4))):
            self.refused("TooMany", 7, glued, none, other, None, None)
            self.refused("TooMany", 8, glued, other, World([[0] * 5] * 5), 0, 0)
        self.refused("TooMany", 11, glued, World([[0] * 6] * 6), World([[0] * 6] * 6), 0, 0)
        two = World([[0, 1], [1, 0]], calls=[[0, 1], [1, 0]])
        self.refused("NotLinked", (1, 2), glued, SHUT, World([[0, 0], [1, 0]]), None, None)
        self.refused("HasCalls", (1, 2), glued, CALLING, World([[0, 0], [1, 0]]), None, None)
        self.refused("NotLinked", (0,), glued, TRIANGLE, World([[0, 0], [1, 0]], calls=[[0, 0], [1, 0]]), None, None)
        self.refused("HasCalls", (0, 1), glued, TRIANGLE, two, None, None)
        for place in (-1, 3, True, None, "0"):
            self.refused("BadPlace", place, glued, TRIANGLE, web_of(two), place, 9)
        for place in (-1, 2, True, None, "0"):
            self.refused("BadPlace", place, glued, TRIANGLE, web_of(two), 2, place)


class Slowed(Checks):
    def test_rates_and_says(self):
        for at, world in enumerate(trial_webs()):
            draw = random.Random(at)
            row = [(draw.randrange(1, 30), draw.randrange(1, 9)) for _ in range(world.size)]
            factor = fractions(row)
            web = slowed(world, row)
            self.same(web.takes, wholes([[f * take for take in takes] for f, takes in zip(factor, world.takes)]))
            self.assertTrue(web.steady)
            parts = [part / f for part, f in zip(fractions(says(world)), factor)]
            self.same(says(web), tuple(pair(part / sum(parts)) for part in parts))

    def test_any_says(self):
        for at, world in enumerate(trial_webs()):
            wanted = some_says(world.size, at)
            for h in (Fraction(1), Fraction(7, 3)):
                factors = [h * own / p for own, p in zip(fractions(says(world)), wanted)]
                self.same(says(slowed(world, tuple(map(pair, factors)))), tuple(map(pair, wanted)))
                bent = [factors[0] * 2] + factors[1:]
                self.assertNotEqual(says(slowed(world, tuple(map(pair, bent)))), tuple(map(pair, wanted)))

    def test_one_factor_for_all(self):
        for world in trial_webs():
            self.same(slowed(world, [1] * world.size).takes, world.takes)
            self.same(slowed(world, [(6, 2)] * world.size).takes, (world * 3).takes)
            self.assertTrue(equal_up_to_factor(slowed(world, [(1, 3)] * world.size), world))

    def test_terms(self):
        self.same(slowed(TRIANGLE, [(2, 4), [3, 3], 2]).takes, ((0, 1, 0), (0, 0, 2), (4, 0, 0)))
        far = 10 ** 99 + 1
        self.same(slowed(World([[0, 1], [1, 0]]), [(far, far - 2), (1, far)]).takes, ((0, far * far), (far - 2, 0)))

    def test_refused(self):
        for factors in (None, (0,), 3):
            self.refused("NotLinked", (1, 2), slowed, SHUT, factors)
            self.refused("HasCalls", (1, 2), slowed, CALLING, factors)
        for factors in (None, "111", 3, (), [1, 1], (1, 1, 1, 1), {0: 1, 1: 1, 2: 1}):
            self.refused("BadOdds", -1, slowed, TRIANGLE, factors)
        for entry in NO_FRACTION + (0, -1, (0, 3), (-1, 2)):
            self.refused("BadOdds", 1, slowed, TRIANGLE, [1, entry, entry])
            self.refused("BadOdds", 0, slowed, TRIANGLE, (entry, 1, entry))


class FromFlow(Checks):
    def test_flow_and_says(self):
        for at, world in enumerate(trial_webs()):
            even = flow(world)
            wanted = some_says(world.size, 3 * at)
            row = [(2 * p.numerator, 2 * p.denominator) for p in wanted]
            web = from_flow(even, row)
            self.same(web.takes, wholes([[e / p for e in fractions(line)] for p, line in zip(wanted, even)]))
            self.assertTrue(web.steady)
            self.same(says(web), tuple(map(pair, wanted)))
            rates = [(Fraction(*a), Fraction(*b)) for one, other in zip(flow(web), even) for a, b in zip(one, other)]
            factor = sum(a for a, b in rates) / sum(b for a, b in rates)
            self.assertTrue(all(a == factor * b for a, b in rates))

    def test_back_again(self):
        for world in trial_webs():
            self.assertTrue(equal_up_to_factor(from_flow(flow(world), says(world)), world))

    def test_flow_is_even_and_tells_the_takes(self):
        for world in trial_webs():
            rows, worth = [fractions(row) for row in flow(world)], fractions(says(world))
            for i in range(world.size):
                self.assertEqual(sum(rows[i]), sum(row[i] for row in rows))
                self.assertEqual([entry / worth[i] for entry in rows[i]], list(world.takes[i]))

    def test_plain(self):
        self.same(from_flow([[0, (3, 6)], [[1, 2], 0]], [(1, 4), (6, 8)]).takes, ((0, 6), (2, 0)))

    def test_table_refused(self):
        for row in (None, [1], (1, 1)):
            for wrong in (
                None, 3, [], [[0, 1]], [[0, 1], [1, 1]], [[0, -1], [-1, 0]], [[0, None], [1, 0]], [[0] * 7] * 7,
                [[0, 1], [1]], [[0]], ((0,),), [[5]], [[0, (1, 0)], [1, 0]],
            ):
                self.refused("BadTable", -1, from_flow, wrong, row)
            self.refused("BadTable", 0, from_flow, [[0, 1], [2, 0]], row)
            self.refused("BadTable", 1, from_flow, [[0, 1, 0], [1, 0, 1], [0, 2, 0]], row)

    def test_row_refused(self):
        even = [[0, 1, 0], [1, 0, 0], [0, 0, 0]]
        for row in (None, "111", 3, (), [(1, 2), (1, 2)], {0: 1, 1: 1, 2: 1}):
            self.refused("BadOdds", -1, from_flow, even, row)
        for entry in NO_FRACTION + (0, -1, (0, 3), (-1, 2)):
            self.refused("BadOdds", 1, from_flow, even, [1, entry, entry])
        for row in ([1, 1, 1], [(1, 3), (1, 3), (1, 4)], [(1, 2), (1, 2), (1, 10 ** 50)]):
            self.refused("BadOdds", -1, from_flow, even, row)

    def test_not_linked_behind_the_row(self):
        row = [(1, 3)] * 3
        self.refused("NotLinked", (0, 1), from_flow, [[0, 1, 0], [1, 0, 0], [0, 0, 0]], row)
        self.refused("NotLinked", (0,), from_flow, [[0, 0, 0], [0, 0, 1], [0, 1, 0]], row)
        even = [[0, 2, 0, 0], [2, 0, 0, 0], [0, 0, 0, 1], [0, 0, 1, 0]]
        self.refused("NotLinked", shut_lot(World(even)), from_flow, even, [(1, 4)] * 4)


class RingWeb(Checks):
    def test_takes(self):
        for size in (2, 3, 5, 6):
            for ring in ((1, 0), tuple(range(size))[::-1], (size - 1, 0)):
                wanted = some_says(size, size)
                rows = ring_web(size, list(ring), [pair(p) for p in wanted], (6, 4))
                exact = [[(0, 1)] * size for _ in range(size)]
                for at, i in enumerate(ring):
                    exact[i][ring[(at + 1) % len(ring)]] = pair(Fraction(3, 2) / wanted[i])
                self.same(rows, tuple(map(tuple, exact)))

    def test_sums_have_the_says(self):
        for size in (3, 4, 6):
            wanted = some_says(size, 5 * size)
            row = tuple(map(pair, wanted))
            webs = [ring_web(size, (i, (i + 1) % size), row, (i + 1, 3)) for i in range(size)]
            webs.append(ring_web(size, tuple(range(size)), row, 2))
            total = [[sum(Fraction(*web[i][j]) for web in webs) for j in range(size)] for i in range(size)]
            self.same(says(World(wholes(total))), row)

    def test_each_linked_web_is_such_a_sum(self):
        for world in trial_webs():
            total = [[Fraction(0)] * world.size for _ in range(world.size)]
            for ring, weight in rings_of(flow(world)):
                part = ring_web(world.size, ring, says(world), weight)
                total = [[a + Fraction(*b) for a, b in zip(row, other)] for row, other in zip(total, part)]
            self.assertEqual(tuple(map(tuple, total)), world.takes)

    def test_refused(self):
        for size in NO_WHOLE + (0, 7, -1):
            self.refused("BadNumber", "size", ring_web, size, None, None, None)
        for ring, place in (
            (None, None), (3, None), ("01", None), ((), None), ((1,), None), ([0, 3], 3), ((0, 1, 0), 0), ((True, 1), True)
        ):
            self.refused("BadLot", place, ring_web, 3, ring, None, None)
        self.refused("BadLot", 1, ring_web, 1, (0, 1), None, None)
        self.refused("BadLot", None, ring_web, 1, (0,), [1], 1)
        for row in (None, "111", (), [(1, 2), (1, 2)], (1, 1, 1), [(1, 3), (1, 3), (1, 4)]):
            self.refused("BadOdds", -1, ring_web, 3, (0, 1), row, None)
        for entry in NO_FRACTION + (0, -1):
            self.refused("BadOdds", 2, ring_web, 3, (0, 1), [1, 1, entry], None)
        for weight in NO_FRACTION + (0, -1, (-1, 2)):
            self.refused("BadFraction", "weight", ring_web, 3, (0, 1), [(1, 3)] * 3, weight)


class Stay(Checks):
    def test_arguments_stay(self):
        factors, even, ring, row = [(2, 4), 3, [1, 1]], [[0, [2, 2], 0], [0, 0, 1], [1, 0, 0]], [2, 0, 1], [[2, 6]] * 3
        self.told(ring_web(3, ring, row, [2, 4]))
        for web in (slowed(TRIANGLE, factors), from_flow(even, row), glued(TRIANGLE, TRIANGLE, 0, 2), left_out(TRIANGLE, 0)):
            self.assertIs(type(web), World)
            self.told((web.takes, web.calls))
            self.assertTrue(is_linked(web))
        self.assertEqual((factors, ring, row), ([(2, 4), 3, [1, 1]], [2, 0, 1], [[2, 6]] * 3))
        self.assertEqual(even, [[0, [2, 2], 0], [0, 0, 1], [1, 0, 0]])
        self.assertEqual(TRIANGLE, with_calls(TRIANGLE, None))


if __name__ == "__main__":
    unittest.main()
