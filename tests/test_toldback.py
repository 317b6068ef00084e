"""Points 66, 73 and 86 to 88: what win tells back, the same wins, and the chances far on in any world."""

import random
import unittest
from fractions import Fraction

from copyrates.endings import lasting_greatest, lit
from copyrates.helds import held_world, is_held
from copyrates.linking import heads
from copyrates.reshaping import slowed
from copyrates.sayrows import says
from copyrates.toldback import call_sums, factors_told, far_chance, same_wins
from copyrates.wins import win_row
from copyrates.worlds import World, web_of, with_calls
from tests.kit import (
    BIG, NO_WHOLE, Checks, difference_of, do, fractions, head_lots, lots, own, pair, rate, rest, ring_takes, some_held,
    some_linked, some_worlds, start, stubborn, table, within
)
from tests.test_wins import linked_worlds, one_head_worlds

TWO = World([[0, 1], [2, 0]], calls=[[0, 0], [1, 0]])
SHUT = World([[0, 1, 0], [0, 0, 1], [0, 1, 0]], calls=[[0, 1, 0], [0, 0, 0], [0, 0, 0]])
HEADS = World([[0, 1, 0, 0], [2, 0, 0, 0], [1, 0, 0, 2], [0, 0, 0, 0]])
NO_FRACTION = (True, None, "1", 1.5, (1,), (1, 0), (1, -1), (1, 2, 3), [1, True], (0.5, 1))
FAR = 10 ** 12


class ToldBack(Checks):
    def test_calls_of_worlds(self):
        for world in linked_worlds():
            row = win_row(world)
            wanted = tuple((sum(calls), 1) for calls in world.calls)
            self.same(self.told(call_sums(world.takes, row)), wanted)
            self.same(call_sums(list(map(list, world.takes)), list(map(list, row))), wanted)
            factors = [1 + Fraction(sum(calls), sum(takes)) for calls, takes in zip(world.calls, world.takes)]
            self.same(self.told(factors_told(world.takes, row)), tuple(map(pair, factors)))

    def test_any_row(self):
        draw = random.Random(86)
        for size in (2, 3, 4, 5):
            for world in some_linked(size, 14, 80 * size, zeros=size - 1)[:3]:
                full = (1 << size) - 1
                row = [(draw.randrange(-30, 30), draw.randrange(1, 9)) for _ in range(1 << size)]
                for i in range(size):
                    row[full - (1 << i)] = (draw.randrange(-30, -1), draw.randrange(1, 9))
                worth, wanted, factors = fractions(row), [], []
                for i in range(size):
                    lacking = full - (1 << i)
                    gains = sum(world.takes[k][i] * (worth[lacking] - worth[lacking - (1 << k)]) for k in rest((i,), size))
                    rates = gains / (1 - worth[lacking])
                    wanted.append(pair(rates - sum(world.takes[i])))
                    factors.append(pair(rates / sum(world.takes[i])))
                self.same(call_sums(world.takes, row), tuple(wanted))
                self.same(factors_told(world.takes, tuple(row)), tuple(factors))

    def test_plain(self):
        self.same(factors_told([[0, 1], [2, 0]], [0, (3, 4), (1, 3), 1]), ((1, 1), (3, 2)))
        # The entry at () counts as it is passed.
        self.same(call_sums([[0, 1], [2, 0]], [(1, 4), (3, 4), (1, 3), 9]), ((-3, 4), (0, 1)))
        great = World([[0, BIG], [1, 0]], calls=[[0, BIG], [0, 0]])
        self.same(call_sums(great.takes, win_row(great)), ((BIG, 1), (0, 1)))

    def test_refused(self):
        for call in (call_sums, factors_told):
            for takes, row in ((None, -1), ([], -1), ([[0]], -1), ([[0, 1], [1, 1]], 1), ([[0, True], [1, 0]], 0)):
                self.refused("BadTable", row, call, takes, None)
            self.refused("BadTable", -1, call, [[0] * 7] * 7, None)
            self.refused("TooMany", 6, call, [[0] * 6] * 6, None)
            self.refused("NotLinked", (1, 2), call, SHUT.takes, None)
            for row in (None, 3, "0000", (), [0, 0, 0], [0] * 5, [0] * 8, {0: 0, 1: 0, 2: 0, 3: 0}):
                self.refused("BadFraction", "row", call, TWO.takes, row)
            for entry in NO_FRACTION:
                for at in range(4):
                    self.refused("BadFraction", "row", call, TWO.takes, [0] * at + [entry] + [0] * (3 - at))
            for one in (1, (1, 1), (7, 7), [3, 3]):
                self.refused("BadFraction", "row", call, TWO.takes, [0, one, 0, 1])
                self.refused("BadFraction", "row", call, TWO.takes, [0, 0, one, 1])
                call(TWO.takes, [one, 0, 0, one])

    def test_arguments_stay(self):
        takes, row = [[0, 1], [2, 0]], [0, [3, 4], (1, 3), 1]
        (call_sums(takes, row), factors_told(takes, row))
        self.assertEqual((takes, row), ([[0, 1], [2, 0]], [0, [3, 4], (1, 3), 1]))


class SameWins(Checks):
    def test_rows(self):
        found = []
        worlds = linked_worlds((2, 3, 4))
        for world in worlds:
            for other in worlds + [world * 3, web_of(world)]:
                if world.size == other.size:
                    wanted = win_row(world) == win_row(other)
                    self.assertIs(same_wins(world, other), wanted)
                    found.append(wanted)
        self.assertEqual(set(found), {True, False})

    def test_sums_keep_them(self):
        pairs = []
        for size in (2, 3, 4):
            webs = some_linked(size, 14, 90 * size, zeros=size - 1, calls=False)[:3] + [World(ring_takes(size))]
            for web in webs:
                for other in webs:
                    factors = [a / b for a, b in zip(fractions(says(other)), fractions(says(web)))]
                    pairs.append((web, slowed(other, [pair(factor) for factor in factors])))
        ring = [[0, 2, 0], [0, 0, 2], [2, 0, 0]]
        turned = [[0, 0, 2], [2, 0, 0], [0, 2, 0]]
        pairs.append((World(ring, calls=ring), World(turned, calls=turned)))
        for one, other in pairs:
            self.assertIs(same_wins(one, other), True)
            for k, m in ((1, 1), (2, 5)):
                self.assertIs(same_wins(one * k + other * m, one), True)

    def test_refused(self):
        self.refused("OtherSize", 2, same_wins, World([[0] * 6] * 6), World([[0, 0], [0, 0]]))
        self.refused("OtherSize", 3, same_wins, TWO, SHUT)
        self.refused("TooMany", 6, same_wins, World([[0] * 6] * 6), World(ring_takes(6)))
        self.refused("NotLinked", (1, 2), same_wins, SHUT, World([[0] * 3] * 3))
        self.refused("NotLinked", (1, 2), same_wins, World(ring_takes(3)), SHUT)


def far_row(world):
    """For each start the chance, far on, of each lot of places with grade 1; by many steps, as floats."""
    every, total = lots(world.size), max(1, sum(map(sum, world.takes)) + sum(map(sum, world.calls)))
    rows = []
    for lot in every:
        row = [0.0] * len(every)
        row[every.index(lot)] = 1.0
        for mark in own(world):
            after = do(start(lot, world.size), [mark])
            part = rate(world, mark) / total
            row[every.index(lot)] -= part
            row[every.index(tuple(i for i in range(world.size) if after[i]))] += part
        rows.append(row)
    for _ in range(24):
        columns = list(zip(*rows))
        rows = [[sum(a * b for a, b in zip(row, column) if a and b) for column in columns] for row in rows]
    return dict(zip(every, rows))


class FarOn(Checks):
    def far(self, world, lot, high):
        return far_chance(world, start(high, world.size), lot, 1)

    def trial_worlds(self):
        found = [HEADS, World([[0] * 3] * 3), World([[0, 1], [0, 0]])]
        # Two heads of two places, one of them with a call, and a place that looks at both; then two such places.
        ties = [(0, 1), (1, 0), (2, 3), (3, 2), (4, 0), (4, 1), (4, 3)]
        found.append(World(
            table(5, lambda i, j: 1 + i if (i, j) in ties else 0),
            calls=table(5, lambda i, j: {(0, 1): 2, (4, 1): 3, (4, 0): 1}.get((i, j), 0)),
        ))
        ties = [(1, 2), (2, 1), (0, 1), (0, 3), (3, 0), (3, 4)]
        found.append(World(
            table(5, lambda i, j: 1 + j if (i, j) in ties else 0), calls=table(5, lambda i, j: 2 if (i, j) in ties[2:] else 0)
        ))
        for size in (2, 3, 4):
            found.extend(some_worlds(size, 5, 97 * size, zeros=2 * size + 3))
            found.extend([World(held_world(world, [0]).takes) for world in some_worlds(size, 2, 98 * size, zeros=size)])
        return found

    def test_many_steps(self):
        many = 0
        for world in self.trial_worlds():
            rows = far_row(world)
            for high in lots(world.size)[:: 1 if world.size < 5 else 3]:
                for lot in lots(world.size)[1:: 1 if world.size < 5 else 4]:
                    dark = sum(part for state, part in zip(lots(world.size), rows[high]) if not set(state) & set(lot))
                    self.assertAlmostEqual(float(self.fraction(self.far(world, lot, high))), 1 - dark, 6)
            many += len(heads(world)) > 1
        self.assertGreater(many, 5)

    def test_one_head(self):
        for world in one_head_worlds() + linked_worlds((2, 3, 4)):
            for lot, chance in zip(lots(world.size), win_row(world)):
                for some in lots(world.size)[1:: world.size]:
                    self.same(self.far(world, some, lot), chance)

    def test_held(self):
        for size in (2, 3, 4):
            for world in some_held(size, 5, 99 * size):
                for holders in within(stubborn(world)):
                    for lot in lots(size)[1:]:
                        high = tuple(sorted(holders + rest(stubborn(world), size)[:1]))
                        self.same(self.far(world, lot, high), lit(world, lot, holders))
                grades = [3, -1, 3, 8, 0][:size]
                for lot in lots(size)[1:]:
                    for grade in (-2, -1, 0, 3, 8, 9):
                        some = [Fraction(*c) for g, c in lasting_greatest(world, lot, grades) if g >= grade]
                        self.same(far_chance(world, grades, lot, grade), pair(sum(some)))

    def test_no_ties(self):
        world = World([[0] * 4] * 4)
        for lot in lots(4)[1:]:
            for high in lots(4):
                self.same(self.far(world, lot, high), (int(bool(set(lot) & set(high))), 1))

    def test_differences(self):
        for world in self.trial_worlds():
            if world.size > 3:
                continue
            for lot in lots(world.size)[1:]:
                f = {high: Fraction(*self.far(world, lot, high)) for high in lots(world.size)}
                for extra in lots(world.size)[1:]:
                    for base in within(rest(extra, world.size)):
                        self.assertGreaterEqual(difference_of(f.get, base, extra), 0)

    def test_grades(self):
        grades = [5, -FAR, FAR, 3]
        for lot, grade, chance in (
            ((2,), 4, (2, 9)), ([2], 5, (2, 9)), ((2,), 6, (0, 1)), ((2,), 3, (8, 9)), ((2,), -FAR, (1, 1)), ((0,), 4, (2, 3)),
            ((3, 1), 3, (1, 1)), ((3, 1), 4, (2, 3)), ((3,), 4, (0, 1)), ((0, 2), 4, (2, 3)), ((0, 2), 3, (8, 9)),
        ):
            self.same(far_chance(HEADS, grades, lot, grade), chance)
        self.assertEqual(head_lots(HEADS), [(0, 1), (3,)])
        self.assertFalse(is_held(HEADS))

    def test_great_rates(self):
        web = table(5, lambda i, j: BIG - 6 * i - j if (i, j) in ((0, 1), (1, 0), (2, 3), (3, 2)) or i == 4 else 0)
        world = with_calls(World(web), table(5, lambda i, j: BIG if (i, j) in ((0, 1), (4, 0)) else 0))
        one, two = (Fraction(*self.far(world, [i], [1, 2])) for i in (0, 3))
        self.same(self.far(world, [0, 3], [1, 2]), pair(1 - (1 - one) * (1 - two)))
        self.assertGreater(Fraction(*self.far(world, [4], [1, 2])), 0)

    def test_refused(self):
        self.refused("TooMany", 6, far_chance, World([[0] * 6] * 6), None, None, None)
        for grades in (None, 3, "abcd", (), [1, 2, 3], (1, 2, 3, 4, 5)):
            self.refused("BadGrades", -1, far_chance, HEADS, grades, None, None)
        for entry in NO_WHOLE:
            self.refused("BadGrades", 1, far_chance, HEADS, (1, entry, entry, 1), None, None)
        for lot, place in ((None, None), (1, None), ((0, 4), 4), ([1, 1], 1), ((True,), True), ((), None), ([], None)):
            self.refused("BadLot", place, far_chance, HEADS, [1, 2, 3, 4], lot, None)
        for grade in NO_WHOLE:
            self.refused("BadNumber", "grade", far_chance, HEADS, [1, 2, 3, 4], [0], grade)

    def test_arguments_stay(self):
        grades, lot = [5, 0, 9, 3], [2, 0]
        far_chance(HEADS, grades, lot, 4)
        self.assertEqual((grades, lot), ([5, 0, 9, 3], [2, 0]))


if __name__ == "__main__":
    unittest.main()
