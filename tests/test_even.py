"""Points 7 to 9: rings, even tables, and sums of weighed rings."""

import random
import unittest
from fractions import Fraction
from math import lcm

from copyrates.even import from_rings, into, is_even, out_of, rings_of, table_of, uneven_lot
from tests.kit import NO_WHOLE, Checks, lots, pair

MANY = 10 ** 99 + 7


def summed(size, rings):
    """The table of weighed rings, in Fractions."""
    rows = [[Fraction(0)] * size for _ in range(size)]
    for ring, weight in rings:
        for k, place in enumerate(ring):
            rows[place][ring[(k + 1) % len(ring)]] += Fraction(*weight) if isinstance(weight, tuple) else weight
    return rows


def pairs(rows):
    return tuple(tuple(pair(entry) for entry in row) for row in rows)


def some_rings(size, many, seed):
    draw = random.Random(seed)
    found = []
    for _ in range(many):
        ring = tuple(draw.sample(range(size), draw.randrange(2, size + 1)))
        found.append((ring, (draw.randrange(1, 9), draw.randrange(1, 7))))
    return found


def even_tables():
    """Even tables of whole numbers and fractions, as pairs."""
    found = [(((0, 1),),)]
    for size in range(1, 7):
        found.append(pairs([[Fraction(0)] * size for _ in range(size)]))
    for size in range(2, 7):
        for many in (1, 2, 3, 5, 9, 20):
            found.append(pairs(summed(size, some_rings(size, many, 100 * size + many))))
    found.append(pairs(summed(6, [((0, 5), (1, MANY)), ((1, 2, 3), (MANY, 3)), ((0, 5, 3), (MANY, MANY - 4))])))
    return found


def uneven_tables():
    draw = random.Random(5)
    found = []
    for size in range(2, 7):
        for _ in range(12):
            rows = [[Fraction(draw.randrange(0, 4), draw.randrange(1, 4)) for _ in range(size)] for _ in range(size)]
            for i in range(size):
                rows[i][i] = Fraction(0)
            found.append(pairs(rows))
    return found


def gaps(told):
    size = len(told)
    worth = [[Fraction(*entry) for entry in row] for row in told]
    return [i for i in range(size) if sum(worth[i]) != sum(worth[j][i] for j in range(size))]


class TableOf(Checks):
    def test_fractions_in_any_terms(self):
        self.same(table_of([[0, (2, 4)], ([6, 3], (0, 9))]), (((0, 1), (1, 2)), ((2, 1), (0, 1))))
        self.same(table_of([[0]]), (((0, 1),),))
        self.same(table_of([[[0, 7]]]), (((0, 1),),))
        self.same(table_of([[0, MANY], [(3, 3 * MANY), 0]]), (((0, 1), (MANY, 1)), ((1, MANY), (0, 1))))
        for told in even_tables() + uneven_tables():
            self.same(table_of(told), told)
            self.same(table_of([[list(entry) for entry in row] for row in told]), told)

    def test_arguments_stay(self):
        table = [[0, [2, 4]], [(1, 2), 0]]
        for call in (table_of, is_even, uneven_lot, rings_of):
            call(table)
        lot = [1]
        out_of(table, lot)
        into(table, lot)
        self.assertEqual((table, lot), ([[0, [2, 4]], [(1, 2), 0]], [1]))
        made = table_of(table)
        table[0][1][0] = 9
        self.same(made, (((0, 1), (1, 2)), ((1, 2), (0, 1))))

    def test_refused_first_in_all_functions(self):
        calls = (table_of, is_even, uneven_lot, rings_of, lambda t: out_of(t, None), lambda t: into(t, None))
        for call in calls:
            for table in (None, 4, "ab", True, (), [], [[0] * 7] * 7, {0: [0]}):
                self.refused("BadTable", -1, call, table)
            for row in (None, 4, "abc", [0, 0], [0] * 4, [0, 1, 0], [0, (1, 9), 0], [0, 0, -1], [(-1, 5), 0, 0],
                        [True, 0, 0], [0, 0, None], [0, 0, (1, 0)], [0, 0, (1, 2, 3)], [0, 0, 0.5], [0, (0, -1), 0],
                        [0, (-1, 5), 0], {0: 0, 1: 0, 2: 0}):
                self.refused("BadTable", 1, call, [[0, 1, 1], row, [1, 0, 0]])
                self.refused("BadTable", 1, call, ([0, 1, 1], row, None))
            self.refused("BadTable", 0, call, [[1]])
            self.refused("BadTable", 0, call, [0])
            self.refused("BadTable", 0, call, [[(1, 2), 0], [0, 1]])


class Even(Checks):
    def test_even(self):
        for told in even_tables():
            self.same(is_even(told), True)
            self.same(uneven_lot(told), None)

    def test_least_uneven_place(self):
        seen = set()
        for told in uneven_tables():
            found = gaps(told)
            self.same(is_even(told), not found)
            self.same(uneven_lot(told), (found[0],) if found else None)
            seen.add(found[0] if found else None)
        self.assertGreater(len(seen), 1)
        self.same(uneven_lot([[0, 1, 0], [1, 0, 1], [0, 2, 0]]), (1,))
        self.same(uneven_lot([[0, 0, 0], [0, 0, 1], [0, 2, 0]]), (1,))
        self.same(uneven_lot([[0, (1, MANY)], [(1, MANY + 1), 0]]), (0,))

    def test_sums_over_a_border(self):
        for told in even_tables() + uneven_tables():
            size = len(told)
            for lot in lots(size):
                inside = [i for i in range(size) if i in lot]
                outside = [i for i in range(size) if i not in lot]
                out = sum((Fraction(*told[i][j]) for i in inside for j in outside), Fraction(0))
                back = sum((Fraction(*told[j][i]) for i in inside for j in outside), Fraction(0))
                self.same(out_of(told, lot), pair(out))
                self.same(into(told, list(reversed(lot))), pair(back))
                if is_even(told):
                    self.assertEqual(out, back)

    def test_even_if_all_lots_of_one_place_are(self):
        for told in even_tables() + uneven_tables():
            balanced = all(out_of(told, (i,)) == into(told, (i,)) for i in range(len(told)))
            self.same(is_even(told), balanced)

    def test_refused_lot(self):
        for call in (out_of, into):
            self.refused("BadLot", None, call, [[0, 1], [1, 0]], 0)
            self.refused("BadLot", 2, call, [[0, 1], [1, 0]], (0, 2))
            self.refused("BadLot", 1, call, [[0]], [1])
            self.refused("BadLot", 0, call, [[0, 1], [1, 0]], (0, 1, 0))
            self.refused("BadLot", False, call, [[0, 1], [1, 0]], (False,))


class RingsOf(Checks):
    def pieces(self, told):
        size = len(told)
        name = list(range(size))
        for i in range(size):
            for j in range(size):
                if told[i][j][0] > 0:
                    name = [name[i] if other == name[j] else other for other in name]
        return len(set(name))

    def test_rings(self):
        for told in even_tables():
            size = len(told)
            rings = self.told(rings_of(told))
            self.assertIs(type(rings), tuple)
            entries = [entry for row in told for entry in row if entry[0] > 0]
            common = lcm(*[entry[1] for entry in entries])
            for ring, weight in rings:
                self.assertGreaterEqual(len(ring), 2)
                self.assertEqual(len(set(ring)), len(ring))
                self.assertEqual(ring[0], min(ring))
                self.assertTrue(all(told[i][j][0] > 0 for i, j in zip(ring, ring[1:] + ring[:1])))
                self.assertGreater(self.fraction(weight), 0)
                self.assertEqual(common % weight[1], 0)
            self.assertEqual(pairs(summed(size, rings)), told)
            self.assertLessEqual(len(rings), len(entries) - size + self.pieces(told))
            self.same(from_rings(size, rings), told)

    def test_no_rings(self):
        for size in range(1, 7):
            self.same(rings_of([[0] * size] * size), ())

    def test_one_ring(self):
        self.same(rings_of([[0, 0, (4, 6)], [0, 0, 0], [[2, 3], 0, 0]]), (((0, 2), (2, 3)),))
        self.same(rings_of(from_rings(4, [((3, 1, 2), 5)])), (((1, 2, 3), (5, 1)),))

    def test_refused(self):
        for told in uneven_tables():
            found = gaps(told)
            if found:
                self.refused("BadTable", found[0], rings_of, told)
        self.refused("BadTable", 1, rings_of, [[0, 0, 0], [0, 0, 1], [0, 0, 0]])


class FromRings(Checks):
    def test_sums(self):
        for size in range(2, 7):
            for many in (0, 1, 2, 7, 40):
                rings = some_rings(size, many, 7 * size + many)
                self.same(from_rings(size, rings), pairs(summed(size, rings)))
                shown = [[list(ring), list(weight)] for ring, weight in rings]
                self.same(from_rings(size, tuple(shown)), pairs(summed(size, rings)))
                self.assertEqual(shown, [[list(ring), list(weight)] for ring, weight in rings])

    def test_rings_that_occur_again(self):
        rings = [((0, 1, 2), (1, 2)), ((1, 2, 0), 1), ((2, 0, 1), (3, 6))]
        self.same(from_rings(3, rings)[0], ((0, 1), (2, 1), (0, 1)))
        self.same(from_rings(2, [((1, 0), (1, MANY))] * 2), (((0, 1), (2, MANY)), ((2, MANY), (0, 1))))

    def test_four_hundred_rings(self):
        rings = [((0, 5, 2), (1, 3)), ((4, 1), 2)] * 200
        self.same(from_rings(6, rings), pairs(summed(6, rings)))

    def test_no_rings(self):
        self.same(from_rings(1, []), (((0, 1),),))
        self.same(from_rings(2, ()), (((0, 1), (0, 1)), ((0, 1), (0, 1))))

    def test_refused_size(self):
        for size in NO_WHOLE + (0, -1, 7):
            self.refused("BadNumber", "size", from_rings, size, [((0, 9), 0)])

    def test_refused_ring(self):
        good = ((0, 1), 1)
        for ring in (None, 3, "01", {0: 1}):
            self.refused("BadLot", None, from_rings, 3, [good, (ring, 0)])
        for entry in NO_WHOLE + (-1, 3):
            self.refused("BadLot", entry, from_rings, 3, [good, ((0, entry, 9), 0)])
        self.refused("BadLot", 1, from_rings, 3, [good, ([1, 1], 1)])
        self.refused("BadLot", 3, from_rings, 3, [good, ([3], 1)])
        for ring in ((), [], (1,), [0]):
            self.refused("BadLot", None, from_rings, 3, [good, (ring, 0)])
        self.refused("BadLot", None, from_rings, 1, [((0,), 1)])

    def test_refused_weight(self):
        for weight in (0, -1, (0, 3), (-1, 3), True, None, (1, 0), (1, -2), "1", 0.5, (1, 2, 3)):
            self.refused("BadFraction", "weight", from_rings, 3, [((0, 1), 1), ((1, 2), weight), (None, 1)])

    def test_pairs_in_turn(self):
        self.refused("BadFraction", "weight", from_rings, 3, [((0, 1), 0), ((0, 9), 1)])
        self.refused("BadLot", 9, from_rings, 3, [((0, 9), 1), ((0, 1), 0)])


if __name__ == "__main__":
    unittest.main()
