"""Points 18, 72, 76, 77 and 84: the chance to win, and the last grades, of worlds with one head."""

import random
import unittest
from fractions import Fraction
from itertools import product

from copyrates.helds import held_world
from copyrates.sayrows import mean_says, said
from copyrates.shapes import line
from copyrates.wins import last_chances, mean_last, win, win_row
from copyrates.worlds import World, web_of
from tests.kit import (
    BIG, NO_WHOLE, Checks, fractions, grade_sums, head_lots, lots, number_of_places, pair, path_web, ring_takes,
    some_linked, some_one_head, start_moves, table, wins_by_run
)

FAR = 10 ** 12
TWO = World([[0, 1], [2, 0]], calls=[[0, 0], [1, 0]])


def linked_worlds(sizes=(2, 3, 4, 5)):
    found = [TWO, World([[0, BIG], [1, 0]], calls=[[0, BIG], [0, 0]])]
    for calls in ([(2, 0)], [(0, 2), (1, 3)], [(2, 0), (1, 3)]):
        web = path_web([2, 0, 3, 1], lambda i, j: 1 + (3 * i + j) % 4)
        found.append(World(web, calls=table(4, lambda i, j: 2 if (i, j) in calls else 0)))
    for size in sizes:
        found.extend(some_linked(size, 14, 41 * size, zeros=size - 1)[:3])
        found.extend(some_linked(size, 9, 43 * size, zeros=size - 1, calls=False)[:1])
        found.append(World(ring_takes(size), calls=table(size, lambda i, j: 5 if (i, j) == (size - 1, 0) else 0)))
    found.append(World(table(4, lambda i, j: BIG - 6 * i - j), calls=table(4, lambda i, j: BIG if i < j else 1)))
    return [world for world in found if world.size in sizes]


def one_head_worlds():
    found = [World([[0, 0], [BIG, 0]], calls=[[0, 0], [7, 0]]), World(table(5, lambda i, j: int(i == j + 1)))]
    for size in (2, 3, 4, 5):
        found.extend(some_one_head(size, 6, 1000 * size))
    return found


def last_grades(world, grades):
    """The chance of each last grade, by a chain of rows of grades."""
    values = sorted(set(grades))
    rows = list(product(values, repeat=world.size))
    ends = {}
    for value in values:
        found = grade_sums(world, rows, lambda mark, row, after: int(after == (value,) * world.size))
        ends[value] = found.get(tuple(grades), int(grades[0] == value))
    return {value: chance for value, chance in ends.items() if chance > 0}


class Wins(Checks):
    def check(self, world, wanted):
        row = self.told(win_row(world))
        self.assertEqual(len(row), 1 << world.size)
        for lot, chance in wanted.items():
            self.same(row[number_of_places(lot)], pair(chance))
            if world.size < 5 or len(lot) == 2:
                self.same(win(world, lot), pair(chance))
                self.same(win(world, list(lot)[::-1]), pair(chance))

    def test_linked(self):
        for world in linked_worlds():
            self.check(world, wins_by_run(world))

    def test_one_head(self):
        for world in one_head_worlds():
            self.check(world, wins_by_run(world))

    def test_one_step_equations(self):
        for world in linked_worlds() + [World(table(5, lambda i, j: BIG - 6 * i - j), calls=table(5, lambda i, j: BIG))]:
            row = fractions(win_row(world))
            self.assertEqual((row[0], row[-1]), (0, 1))
            for lot in lots(world.size)[1:-1]:
                at = number_of_places(lot)
                moves = start_moves(world, lot)
                total = sum(rate * (row[number_of_places(reached)] - row[at]) for reached, rate in moves.items())
                self.assertEqual(total, 0)

    def test_steady_worlds_tell_the_says(self):
        for world in linked_worlds():
            web = web_of(world)
            self.same(win_row(web), tuple(said(web, lot) for lot in lots(web.size)))

    def test_head_alone(self):
        for world in one_head_worlds():
            head, row = head_lots(world)[0], win_row(world)
            for lot in lots(world.size):
                kept = tuple(i for i in lot if i in head)
                if len(head) == 1:
                    self.same(row[number_of_places(lot)], (len(kept), 1))
                else:
                    rows = [[[table[i][j] for j in head] for i in head] for table in (world.takes, world.calls)]
                    alone = World(rows[0], calls=rows[1])
                    self.same(row[number_of_places(lot)], win(alone, [head.index(i) for i in kept]))

    def test_one_held_place(self):
        for world in linked_worlds():
            for p in range(world.size):
                row = win_row(held_world(world, [p]))
                self.same(row, tuple((int(p in lot), 1) for lot in lots(world.size)))

    def test_plain(self):
        self.same(win_row(TWO), ((0, 1), (3, 4), (1, 3), (1, 1)))
        self.same(win_row(World([[0, 0], [1, 0]])), ((0, 1), (1, 1), (0, 1), (1, 1)))


class LastGrades(Checks):
    def test_by_rows_of_grades(self):
        for world in [world for world in linked_worlds((2, 3)) + one_head_worlds() if world.size < 4][:9]:
            for grades in ([0, 1, 2], [2, 0, 1], [5, 5, -3], [4, 4, 4]):
                row = grades[:world.size]
                wanted = tuple((grade, pair(chance)) for grade, chance in sorted(last_grades(world, row).items()))
                self.same(last_chances(world, row), wanted)

    def test_thresholds_and_mean(self):
        draw = random.Random(18)
        for world in linked_worlds() + one_head_worlds():
            row = fractions(win_row(world))
            for top in (0, 2, FAR):
                grades = tuple(draw.randrange(-top, top + 1) for _ in range(world.size))
                found = self.told(last_chances(world, grades))
                self.same(found, last_chances(world, list(grades)))
                self.assertEqual([grade for grade, chance in found], sorted({grade for grade, chance in found}))
                self.assertTrue(all(self.fraction(chance) > 0 for grade, chance in found))
                for limit in grades + (-top - 1, top + 1):
                    high = number_of_places([i for i in range(world.size) if grades[i] >= limit])
                    self.assertEqual(sum(Fraction(*chance) for grade, chance in found if grade >= limit), row[high])
                mean = sum(grade * Fraction(*chance) for grade, chance in found)
                self.same(mean_last(world, grades), pair(mean))

    def test_plain(self):
        self.same(last_chances(TWO, [7, 5]), ((5, (1, 4)), (7, (3, 4))))
        self.same(last_chances(TWO, (-FAR, FAR)), ((-FAR, (2, 3)), (FAR, (1, 3))))
        self.same(mean_last(TWO, (-FAR, FAR)), (-FAR, 3))
        self.same(last_chances(World([[0, 0], [1, 0]]), [4, 9]), ((4, (1, 1)),))
        self.same(mean_last(World([[0, 0], [1, 0]]), [4, 9]), (4, 1))

    def test_grades_added(self):
        draw = random.Random(84)
        found = []
        for world in linked_worlds((2, 3, 4)):
            for _ in range(12):
                x, y = ([draw.randrange(-3, 4) for _ in range(world.size)] for _ in range(2))
                both = Fraction(*mean_last(world, [a + b for a, b in zip(x, y)]))
                parts = Fraction(*mean_last(world, x)) + Fraction(*mean_last(world, y))
                apart = any(a < b and c > d for a, c in zip(x, y) for b, d in zip(x, y))
                self.assertLessEqual(both, parts)
                self.assertEqual(both == parts, world.steady or not apart)
                found.append((both == parts, apart))
                k, a = draw.randrange(4), draw.randrange(-9, 9)
                mean = k * Fraction(*mean_last(world, x)) + a
                self.same(mean_last(world, [k * entry + a for entry in x]), pair(mean))
        self.assertEqual(set(found), {(True, False), (True, True), (False, True)})

    def test_at_least_what_the_says_tell(self):
        draw = random.Random(83)
        for world in linked_worlds((2, 3, 4)):
            for _ in range(4):
                grades = [draw.randrange(-3, 4) for _ in range(world.size)]
                gap = Fraction(*mean_last(world, grades)) - Fraction(*mean_says(world, grades))
                self.assertGreaterEqual(gap, 0)
                if not world.steady and len(set(grades)) > 1 and line(world) is None:
                    self.assertGreater(gap, 0)


class Refused(Checks):
    heads = World([[0, 1, 0, 0], [2, 0, 0, 0], [1, 0, 0, 2], [0, 0, 0, 0]])
    calls = (win, lambda world, told: win_row(world), mean_last, last_chances)

    def test_world_first(self):
        for call in self.calls:
            for world in (World([[0] * 6] * 6), World(ring_takes(6))):
                self.refused("TooMany", 6, call, world, None)
            self.refused("ManyHeads", 2, call, self.heads, None)
            self.refused("ManyHeads", 5, call, World([[0] * 5] * 5), None)
            self.refused("ManyHeads", 2, call, World([[0, 0], [0, 0]]), None)

    def test_lot(self):
        for lot, place in ((None, None), (1, None), ((0, 2), 2), ([1, 1], 1), ((True,), True)):
            self.refused("BadLot", place, win, TWO, lot)

    def test_grades(self):
        for call in (mean_last, last_chances):
            for grades in (None, 3, "ab", (), [1], (1, 2, 3)):
                self.refused("BadGrades", -1, call, TWO, grades)
            for entry in NO_WHOLE:
                self.refused("BadGrades", 1, call, TWO, (1, entry))

    def test_arguments_stay(self):
        lot, grades = [1, 0], [3, 1]
        (win(TWO, lot), mean_last(TWO, grades), last_chances(TWO, grades))
        self.assertEqual((lot, grades), ([1, 0], [3, 1]))


if __name__ == "__main__":
    unittest.main()
