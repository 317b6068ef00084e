"""Points 31 to 33: says, trees, flow and last grades."""

import random
import unittest
from fractions import Fraction
from itertools import product

from copyrates.linking import shut_lot
from copyrates.sayrows import flow, lasts, mean_says, said, says, squares
from copyrates.worlds import World, web_of, with_calls
from tests.kit import BIG, NO_WHOLE, Checks, lots, pair, path_web, ring_takes, some_linked, table

FAR = 10 ** 12


def trial_worlds():
    found = []
    for size, zeros in ((2, 0), (3, 2), (4, 3), (5, 5), (6, 6)):
        found.extend(some_linked(size, 12, 31 * size, zeros=zeros))
    found.extend([World(ring_takes(size)) for size in (2, 6)])
    found.append(World(path_web([3, 5, 0, 1, 4, 2], lambda i, j: 1 + (7 * i + j) % 5)))
    found.append(World(table(6, lambda i, j: BIG - 6 * i - j)))
    found.append(World([[0, BIG], [1, 0]]))
    return found


def trees(world, root):
    """The sum over all trees to the root of the products of their takes."""
    others = [j for j in range(world.size) if j != root]
    total = 0
    for chosen in product(range(world.size), repeat=len(others)):
        after = dict(zip(others, chosen))
        worth = 1
        for j, k in after.items():
            worth *= world.takes[j][k]
        if worth == 0:
            continue
        for j in others:
            at = j
            for _ in others:
                at = after.get(at, at)
            if at != root:
                worth = 0
        total += worth
    return total


class Says(Checks):
    def test_balance(self):
        for world in trial_worlds():
            row = says(world)
            self.assertIs(type(row), tuple)
            worth = [self.fraction(entry) for entry in row]
            self.assertEqual(len(worth), world.size)
            self.assertEqual(sum(worth), 1)
            for j in range(world.size):
                self.assertGreater(worth[j], 0)
                into = sum(worth[i] * world.takes[i][j] for i in range(world.size))
                self.assertEqual(into, worth[j] * sum(world.takes[j]))

    def test_trees(self):
        for world in trial_worlds():
            if world.size < 6:
                sums = [trees(world, root) for root in range(world.size)]
                self.same(says(world), tuple(pair(Fraction(part, sum(sums))) for part in sums))

    def test_trees_of_six_places(self):
        world = some_linked(6, 9, 5, zeros=9)[0]
        sums = [trees(world, root) for root in range(6)]
        self.same(says(world), tuple(pair(Fraction(part, sum(sums))) for part in sums))

    def test_plain(self):
        self.same(says(World([[0, 1], [2, 0]])), ((2, 3), (1, 3)))
        self.same(says(World([[0, BIG], [1, 0]])), (pair(Fraction(1, BIG + 1)), pair(Fraction(BIG, BIG + 1))))
        self.same(says(World(ring_takes(6))), ((1, 6),) * 6)

    def test_great_rates_of_a_returned_world(self):
        world = World(table(6, lambda i, j: BIG + 7 * i + j * j)) * BIG * BIG * BIG
        self.same(says(world), says(World(table(6, lambda i, j: BIG + 7 * i + j * j))))

    def test_calls_play_no_part(self):
        for world in trial_worlds():
            for call in (says, flow, lambda w: said(w, [0]), lambda w: squares(w, [1]), lambda w: mean_says(w, [3] * w.size)):
                self.same(call(world), call(web_of(world)))

    def test_lots(self):
        for world in trial_worlds():
            worth = [Fraction(*entry) for entry in says(world)]
            for lot in lots(world.size):
                self.same(said(world, lot), pair(sum((worth[i] for i in lot), Fraction(0))))
                self.same(said(world, list(reversed(lot))), said(world, lot))
                self.same(squares(world, lot), pair(sum((worth[i] * worth[i] for i in lot), Fraction(0))))
                self.same(squares(world, list(reversed(lot))), squares(world, lot))
            self.same(said(world, ()), (0, 1))
            self.same(said(world, tuple(range(world.size))), (1, 1))
            self.same(squares(world, ()), (0, 1))

    def test_flow(self):
        for world in trial_worlds():
            rows = self.told(flow(world))
            worth = [Fraction(*entry) for entry in says(world)]
            wanted = [[pair(worth[i] * world.takes[i][j]) for j in range(world.size)] for i in range(world.size)]
            self.same(rows, tuple(map(tuple, wanted)))


class LastGrades(Checks):
    def steady_worlds(self):
        return [web_of(world) for world in trial_worlds()]

    def win(self, world, lot):
        return Fraction(*dict(lasts(world, [int(i in lot) for i in range(world.size)])).get(1, (0, 1)))

    def test_winning_is_what_a_step_keeps(self):
        for world in self.steady_worlds():
            if world.size > 4:
                continue
            for lot in lots(world.size):
                mean = 0
                for i, j in world.ties():
                    after = [place for place in lot if place != i] + ([i] if j in lot else [])
                    mean += world.takes[i][j] * self.win(world, after)
                self.assertEqual(mean, world.total * self.win(world, lot))
            self.assertEqual(self.win(world, ()), 0)
            self.assertEqual(self.win(world, range(world.size)), 1)

    def test_lasts(self):
        draw = random.Random(33)
        for world in self.steady_worlds():
            worth = [Fraction(*entry) for entry in says(world)]
            for top in (0, 1, 2, FAR):
                grades = [draw.randrange(-top, top + 1) for _ in range(world.size)]
                wanted = tuple(
                    (grade, pair(sum(part for part, own in zip(worth, grades) if own == grade)))
                    for grade in sorted(set(grades))
                )
                self.same(lasts(world, grades), wanted)
                self.same(lasts(world, tuple(grades)), wanted)
                mean = sum(grade * Fraction(*chance) for grade, chance in wanted)
                self.same(mean_says(world, grades), pair(mean))

    def test_plain(self):
        world = World([[0, 1], [2, 0]])
        self.same(lasts(world, (7, 5)), ((5, (1, 3)), (7, (2, 3))))
        self.same(lasts(world, (-4, -4)), ((-4, (1, 1)),))
        self.same(mean_says(world, (7, 5)), (19, 3))
        self.same(mean_says(world, [-FAR, FAR]), (-FAR, 3))
        self.same(mean_says(world, [-1, 2]), (0, 1))

    def test_mean_says_takes_worlds_with_calls(self):
        world = World([[0, 1], [2, 0]], calls=[[0, 5], [0, 0]])
        self.same(mean_says(world, (7, 5)), (19, 3))


class Refused(Checks):
    shut = World([[0, 1, 0], [0, 0, 1], [0, 1, 0]], calls=[[0, 1, 0], [0, 0, 0], [0, 0, 0]])
    calling = World([[0, 1, 1], [1, 0, 1], [1, 1, 0]], calls=[[0, 0, 0], [0, 0, 1], [1, 0, 0]])

    def test_not_linked(self):
        self.refused("NotLinked", (1, 2), says, self.shut)
        self.refused("NotLinked", (1, 2), flow, self.shut)
        for call in (said, squares, lasts, mean_says):
            self.refused("NotLinked", (1, 2), call, self.shut, None)
        world = World(table(6, lambda i, j: 1 if i == 5 else 0))
        self.refused("NotLinked", shut_lot(world), says, world)

    def test_calls(self):
        for grades in ([1, 2, 3], None, [1]):
            self.refused("HasCalls", (1, 2), lasts, self.calling, grades)
            for i, j in self.calling.ties():
                calls = table(3, lambda a, b: 1 if (a, b) == (i, j) else 0)
                self.refused("HasCalls", (i, j), lasts, with_calls(self.calling, calls), grades)

    def test_lots(self):
        for call in (said, squares):
            for lot, place in ((None, None), (2, None), ((0, 3), 3), ([1, 0, 1], 1), ((True,), True)):
                self.refused("BadLot", place, call, self.calling, lot)

    def test_grades(self):
        for call in (lasts, mean_says):
            for grades in (None, 3, "abc", (), [1, 2], (1, 2, 3, 4), {0: 1, 1: 2, 2: 3}):
                self.refused("BadGrades", -1, call, web_of(self.calling), grades)
            for entry in NO_WHOLE:
                self.refused("BadGrades", 1, call, web_of(self.calling), (1, entry, entry))

    def test_arguments_stay(self):
        grades, lot = [3, 1, 2], [2, 0]
        world = web_of(self.calling)
        (lasts(world, grades), mean_says(world, grades), said(world, lot), squares(world, lot))
        self.assertEqual((grades, lot), ([3, 1, 2], [2, 0]))


if __name__ == "__main__":
    unittest.main()
