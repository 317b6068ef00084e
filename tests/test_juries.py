"""Points 22 to 25, 78, 79, 82, 85 and 89: jury steps and the jury's chances."""

import random
import unittest
from fractions import Fraction
from itertools import permutations

from copyrates.decided import decided_row, gathered
from copyrates.juries import Jury, jury_steps
from copyrates.markrows import backward, decided_share, forward
from copyrates.sayrows import says
from copyrates.wins import last_chances, win_row
from copyrates.worlds import World, web_of
from tests.kit import (
    BIG, NO_WHOLE, Checks, back_moves, fractions, head_lots, lots, number_of_places, pair, rest, ring_takes,
    some_linked, some_worlds, table
)
from tests.test_wins import linked_worlds, one_head_worlds

TWO = World([[0, 1], [2, 0]], calls=[[0, 0], [1, 0]])


class Steps(Checks):
    def test_rates(self):
        for size in (2, 3, 4, 6):
            for world in list(some_worlds(size, 4, 50 * size)) + [World([[0] * size] * size)]:
                for lot in lots(size)[1:]:
                    found = self.told(jury_steps(world, list(lot)[::-1]))
                    self.same(found, tuple(sorted(back_moves(world, lot).items(), key=lambda at: number_of_places(at[0]))))

    def test_plain(self):
        self.same(jury_steps(TWO, [0]), (((1,), 1),))
        self.same(jury_steps(TWO, [1]), (((0,), 2), ((0, 1), 1)))
        self.same(jury_steps(TWO, (1, 0)), (((0,), 2), ((1,), 1)))
        self.same(jury_steps(World([[0, BIG], [0, 0]], calls=[[0, BIG], [0, 0]]), (0,)), (((1,), BIG), ((0, 1), BIG)))
        self.same(jury_steps(World([[0, 0], [0, 0]]), (0, 1)), ())

    def test_refused(self):
        for lot, place in ((None, None), (1, None), ((0, 2), 2), ([1, 1], 1), ((True,), True), ((), None), ([], None)):
            self.refused("BadLot", place, jury_steps, TWO, lot)


class Chances(Checks):
    def nu(self, world):
        return {lot: Fraction(*chance) for lot, chance in Jury(world)}

    def test_one_jury_step_keeps_them(self):
        for world in linked_worlds() + one_head_worlds():
            nu = self.nu(world)
            self.assertEqual(sum(nu.values()), 1)
            gain = {}
            for lot, chance in nu.items():
                for reached, rate in back_moves(world, lot).items():
                    gain[reached] = gain.get(reached, 0) + chance * rate
                    gain[lot] = gain.get(lot, 0) - chance * rate
            self.assertEqual(set(gain.values()) | {0}, {0})

    def test_head(self):
        for world in one_head_worlds():
            for lot in self.nu(world):
                self.assertTrue(set(lot) <= set(head_lots(world)[0]))

    def test_either_or(self):
        found = []
        for world in linked_worlds():
            nu = self.nu(world)
            found.append(world.steady)
            if world.steady:
                self.assertEqual([nu.get((i,)) for i in range(world.size)], fractions(says(world)))
                self.assertEqual(len(nu), world.size)
            else:
                self.assertEqual(len(nu), (1 << world.size) - 1)
        self.assertEqual(set(found), {True, False})

    def test_one_calling_tie(self):
        for size in (2, 3, 4):
            for world in some_linked(size, 9, 60 * size, zeros=size - 1, calls=False)[:2]:
                for tie in world.ties():
                    calling = World(world.takes, calls=table(size, lambda i, j: int((i, j) == tie)))
                    self.assertEqual(len(self.nu(calling)), (1 << size) - 1)

    def test_win_is_meeting(self):
        for world in linked_worlds() + one_head_worlds():
            jury, nu = Jury(world), self.nu(world)
            for lot, chance in zip(lots(world.size), win_row(world)):
                mixed = list(lot)[::-1]
                self.same(jury.meets(mixed), chance)
                self.same(jury.meets(lot), pair(sum(c for own, c in nu.items() if set(own) & set(lot))))
                self.same(jury.misses(mixed), pair(sum(c for own, c in nu.items() if not set(own) & set(lot))))
                self.same(jury.holds(mixed), pair(sum(c for own, c in nu.items() if set(lot) <= set(own))))

    def test_chances_and_iteration(self):
        for world in linked_worlds() + one_head_worlds():
            jury, nu = Jury(world), self.nu(world)
            self.same(jury.chances, tuple(pair(nu.get(lot, 0)) for lot in lots(world.size)))
            self.told(jury.chances)
            for lot in lots(world.size)[1:]:
                self.same(jury.chance(list(lot)[::-1]), pair(nu.get(lot, 0)))
            found = self.told(tuple(jury))
            self.same(found, tuple((lot, pair(nu[lot])) for lot in lots(world.size) if lot in nu))
            self.same(found, tuple(jury))
            self.assertFalse(hasattr(jury, "__len__"))

    def test_last_grade(self):
        draw = random.Random(78)
        for world in linked_worlds() + one_head_worlds():
            jury, nu = Jury(world), self.nu(world)
            for top in (1, 4, 10 ** 12):
                grades = [draw.randrange(-top, top + 1) for _ in range(world.size)]
                sums = {}
                for lot, chance in nu.items():
                    greatest = max(grades[i] for i in lot)
                    sums[greatest] = sums.get(greatest, 0) + chance
                self.same(jury(grades), tuple((grade, pair(sums[grade])) for grade in sorted(sums)))
                self.same(jury(tuple(grades)), last_chances(world, grades))

    def test_sizes(self):
        for world in linked_worlds() + one_head_worlds():
            jury, nu = Jury(world), self.nu(world)
            for number in range(1, world.size + 1):
                self.same(jury.sized(number), pair(sum(c for lot, c in nu.items() if len(lot) == number)))
            self.same(jury.mean_size, pair(sum(c * len(lot) for lot, c in nu.items())))

    def test_counts(self):
        for world in [world for world in linked_worlds()]:
            jury, row = Jury(world), fractions(win_row(world))
            ones = [row[1 << i] for i in range(world.size)]
            falls = [1 - row[(1 << world.size) - 1 - (1 << i)] for i in range(world.size)]
            self.assertEqual(Fraction(*jury.mean_size), sum(ones))
            self.assertEqual(falls, [Fraction(*jury.chance([i])) for i in range(world.size)])
            self.assertGreaterEqual(sum(ones) + sum(falls), 2)
            self.assertEqual(sum(ones) + sum(falls) == 2, world.size == 2 or world.steady)

    def test_weighed_counts(self):
        draw = random.Random(82)
        for world in linked_worlds((2, 3, 4)):
            v = [draw.randrange(-5, 6) for _ in range(world.size)]
            out = inner = Fraction(0)
            for lot, chance in self.nu(world).items():
                for i in lot:
                    for j in rest(lot, world.size):
                        out += chance * (world.rate(i, j) * v[j] - world.takes[i][j] * v[i])
                    inner += chance * sum(world.takes[i][j] * v[i] for j in lot)
            self.assertEqual(out, inner)

    def test_great_rates(self):
        world = World(table(5, lambda i, j: BIG - 6 * i - j), calls=table(5, lambda i, j: BIG - i * j))
        jury = Jury(world)
        self.assertEqual(sum(fractions(jury.chances)), 1)
        self.assertTrue(all(Fraction(*chance) > 0 for chance in jury.chances[1:]))
        self.same(jury.meets([2, 4]), win_row(world)[20])


class Shares(Checks):
    def test_definition(self):
        for world in linked_worlds() + one_head_worlds():
            jury = Jury(world)
            nu = dict(jury)
            shares = [self.fraction(jury.share(i)) for i in range(world.size)]
            for i, share in enumerate(shares):
                self.assertEqual(share, sum(Fraction(*c) / len(lot) for lot, c in nu.items() if i in lot))
            self.assertEqual(sum(shares), 1)
            if world.steady and len(nu) == world.size:
                self.same(tuple(map(pair, shares)), says(world))

    def test_orders(self):
        for world in linked_worlds((2, 3, 4)):
            row = fractions(win_row(world))
            orders = list(permutations(range(world.size)))
            for i in range(world.size):
                total = Fraction(0)
                for order in orders:
                    ahead = number_of_places(order[:order.index(i)])
                    total += row[ahead | 1 << i] - row[ahead]
                self.same(Jury(world).share(i), pair(total / len(orders)))


class RowsOfMarks(Checks):
    def small(self):
        return [world for world in linked_worlds((2, 3)) if world.total < 10 ** 6]

    def test_decided_rows(self):
        for world in linked_worlds((2, 3, 4)):
            for lot, chance in zip(lots(world.size)[1:], Jury(world).chances[1:]):
                self.assertEqual(decided_row(world, lot) is not None, chance[0] > 0)

    def test_chance_to_be_decided(self):
        for world in self.small():
            nu = fractions(Jury(world).chances)
            last = [Fraction(0)] * len(nu)
            for number in range(7):
                row = fractions(decided_share(world, number))
                for lot in lots(world.size)[1:]:
                    at, least = number_of_places(lot), world.size + len(lot) - 2
                    self.assertLessEqual(row[at], nu[at])
                    self.assertLessEqual(nu[at], row[at] + 1 - sum(row))
                    self.assertGreaterEqual(row[at], last[at])
                    if number < least:
                        self.assertEqual(row[at], 0)
                    elif number == least:
                        self.assertEqual(row[at] > 0, gathered(world, lot) is not None)
                last = row

    def test_marks_behind_the_jury(self):
        for world in self.small():
            nu = dict(Jury(world))
            for lot, win in zip(lots(world.size), fractions(win_row(world))):
                for number in (0, 1, 2, 5):
                    power = world.total ** number
                    total = sum(Fraction(*c) * forward(world, number, lot, T) for T, c in nu.items())
                    self.assertEqual(total, win * power)
                    total = sum(Fraction(*c) * backward(world, number, lot, T) for T, c in nu.items())
                    self.assertEqual(total, win * power)

    def test_some_and_all_with_one(self):
        for world in self.small():
            for calling in (world, web_of(world)):
                every = range(world.size)
                for lot, win in zip(lots(world.size), fractions(win_row(calling))):
                    some = [Fraction(forward(calling, k, lot, list(every)), calling.total ** k) for k in range(9)]
                    self.assertEqual(some, sorted(some, reverse=True))
                    self.assertGreaterEqual(some[-1], win)
                    if calling.steady:
                        left = rest(lot, world.size)
                        whole = [1 - Fraction(forward(calling, k, left, list(every)), calling.total ** k) for k in range(9)]
                        self.assertEqual(whole, sorted(whole))
                        self.assertLessEqual(whole[-1], win)

    def test_jury_steps_tend_to_it(self):
        for world in self.small()[:4]:
            nu = {lot: float(Fraction(*c)) for lot, c in Jury(world)}
            total = world.total
            for begun in lots(world.size)[1:]:
                state = {begun: 1.0}
                for _ in range(600):
                    after = {}
                    for lot, chance in state.items():
                        moves = dict(jury_steps(world, lot))
                        for reached, rate in moves.items():
                            after[reached] = after.get(reached, 0.0) + chance * rate / total
                        after[lot] = after.get(lot, 0.0) + chance * (total - sum(moves.values())) / total
                    state = after
                for lot in lots(world.size)[1:]:
                    self.assertAlmostEqual(state.get(lot, 0.0), nu.get(lot, 0.0), 6)


class Refused(Checks):
    def test_world(self):
        for world in (World([[0] * 6] * 6), World(ring_takes(6))):
            self.refused("TooMany", 6, Jury, world)
        self.refused("ManyHeads", 2, Jury, World([[0, 1, 0, 0], [2, 0, 0, 0], [1, 0, 0, 2], [0, 0, 0, 0]]))
        self.refused("ManyHeads", 5, Jury, World([[0] * 5] * 5))

    def test_lots(self):
        jury = Jury(TWO)
        for lot, place in ((None, None), (1, None), ((0, 2), 2), ([1, 1], 1), ((True,), True)):
            for call in (jury.chance, jury.meets, jury.misses, jury.holds):
                self.refused("BadLot", place, call, lot)
        self.refused("BadLot", None, jury.chance, ())
        self.same((jury.meets(()), jury.misses([]), jury.holds(())), ((0, 1), (1, 1), (1, 1)))
        self.same((jury.meets((1, 0)), jury.misses((0, 1)), jury.holds([1, 0])), ((1, 1), (0, 1), (1, 12)))

    def test_numbers_places_grades(self):
        jury = Jury(TWO)
        for number in NO_WHOLE + (0, 3, -1):
            self.refused("BadNumber", "number", jury.sized, number)
        for place in (-1, 2, True, None, "0", (0,)):
            self.refused("BadPlace", place, jury.share, place)
        for grades in (None, 3, "ab", (), [1], (1, 2, 3)):
            self.refused("BadGrades", -1, jury, grades)
        for entry in NO_WHOLE:
            self.refused("BadGrades", 1, jury, (1, entry))

    def test_never_changes(self):
        jury, lot, grades = Jury(TWO), [1, 0], [3, 1]
        first = (jury.chances, jury.mean_size, jury.share(1))
        self.assertIs(jury.world, TWO)
        self.assertEqual(jury.size, 2)
        self.told((jury(grades), jury.meets(lot), jury.holds(lot), jury.sized(2), jury_steps(TWO, lot)))
        self.assertEqual((lot, grades), ([1, 0], [3, 1]))
        self.assertEqual(first, (jury.chances, jury.mean_size, jury.share(1)))


if __name__ == "__main__":
    unittest.main()
