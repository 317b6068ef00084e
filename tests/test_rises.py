"""Points 82 and 83: what calls add, and the calls and takes of a drawn jury."""

import random
import unittest
from fractions import Fraction

from copyrates.juries import Jury
from copyrates.rises import call_worth, out_and_in, rise_worth
from copyrates.sayrows import mean_says, said, says
from copyrates.shapes import line
from copyrates.wins import mean_last, win
from copyrates.worlds import World, web_of
from tests.kit import (
    BIG, NO_WHOLE, Checks, fractions, grade_sums, lots, pair, rest, ring_takes, start, table
)
from tests.test_wins import linked_worlds

SHUT = World([[0, 1, 0], [0, 0, 1], [0, 1, 0]], calls=[[0, 1, 0], [0, 0, 0], [0, 0, 0]])


def rises_by_run(world, rows):
    """For each row of grades, of those that can follow one another, the mean sum of the says times the rises by calls."""
    worth = fractions(says(world))
    return grade_sums(world, rows, lambda mark, row, after: (
        worth[mark[0]] * (after[mark[0]] - row[mark[0]]) if mark[2] == "call" else 0
    ))


class CallWorth(Checks):
    def test_run(self):
        for world in linked_worlds((2, 3, 4)):
            found = rises_by_run(world, [start(lot, world.size) for lot in lots(world.size)])
            for lot in lots(world.size):
                wanted = pair(found.get(start(lot, world.size), 0))
                self.same(call_worth(world, list(lot)[::-1]), wanted)
                self.same(rise_worth(world, start(lot, world.size)), wanted)

    def test_win_less_says(self):
        for world in linked_worlds():
            for lot in lots(world.size)[:: 1 if world.size < 5 else 5]:
                gap = Fraction(*win(world, lot)) - Fraction(*said(world, lot))
                self.same(call_worth(world, lot), pair(gap))
                self.assertGreaterEqual(gap, 0)
            self.same(call_worth(world, ()), (0, 1))
            self.same(call_worth(world, list(range(world.size))), (0, 1))

    def test_great_rates(self):
        world = World([[0, BIG], [1, 0]], calls=[[0, BIG], [0, 0]])
        self.same(call_worth(world, [1]), pair(Fraction(2 * BIG, 2 * BIG + 1) - Fraction(BIG, BIG + 1)))


class RiseWorth(Checks):
    def test_run(self):
        for world in linked_worlds((2, 3))[:6]:
            values = (-2, 0, 5)
            rows = [()]
            for _ in range(world.size):
                rows = [row + (value,) for row in rows for value in values]
            found = rises_by_run(world, rows)
            for row in rows[::2]:
                self.same(rise_worth(world, row), pair(found.get(row, 0)))

    def test_mean_less_says(self):
        draw = random.Random(83)
        for world in linked_worlds():
            order = line(world)
            for top in (1, 3, 10 ** 12):
                grades = [draw.randrange(-top, top + 1) for _ in range(world.size)]
                gap = Fraction(*mean_last(world, grades)) - Fraction(*mean_says(world, grades))
                self.same(rise_worth(world, grades), pair(gap))
                self.assertGreaterEqual(gap, 0)
                self.same(rise_worth(web_of(world), grades), (0, 1))
                self.same(rise_worth(world, [top] * world.size), (0, 1))
                ways = {order.index(i) < order.index(j) for i, j in world.calling()} if order else {True, False}
                if len(set(grades)) > 1 and not world.steady and len(ways) == 2:
                    self.assertGreater(gap, 0)


class OutAndIn(Checks):
    def test_means(self):
        for world in linked_worlds():
            out = inner = Fraction(0)
            for lot, chance in Jury(world):
                out += Fraction(*chance) * sum(world.calls[i][j] for i in lot for j in rest(lot, world.size))
                inner += Fraction(*chance) * sum(world.takes[i][j] for i in lot for j in lot)
            self.same(self.told(out_and_in(world)), (pair(out), pair(inner)))
            self.assertEqual(out, inner)
            self.assertEqual(out > 0, not world.steady)

    def test_plain(self):
        self.same(out_and_in(World([[0, 1], [2, 0]], calls=[[0, 0], [1, 0]])), ((1, 4), (1, 4)))
        self.same(out_and_in(World(ring_takes(4))), ((0, 1), (0, 1)))


class Refused(Checks):
    ring = World(ring_takes(3))

    def test_world_first(self):
        for call in (call_worth, rise_worth, lambda world, told: out_and_in(world)):
            for world in (World([[0] * 6] * 6), World(table(6, lambda i, j: int(j == 0)))):
                self.refused("TooMany", 6, call, world, None)
            self.refused("NotLinked", (1, 2), call, SHUT, None)
            # One head is not enough here.
            self.refused("NotLinked", (0,), call, World([[0, 0], [1, 0]]), None)

    def test_arguments(self):
        for lot, place in ((None, None), (1, None), ((0, 3), 3), ([1, 1], 1), ((True,), True)):
            self.refused("BadLot", place, call_worth, self.ring, lot)
        for grades in (None, 3, "abc", (), [1, 2], (1, 2, 3, 4)):
            self.refused("BadGrades", -1, rise_worth, self.ring, grades)
        for entry in NO_WHOLE:
            self.refused("BadGrades", 1, rise_worth, self.ring, (1, entry, entry))

    def test_arguments_stay(self):
        lot, grades = [2, 0], [3, 1, 2]
        (call_worth(self.ring, lot), rise_worth(self.ring, grades))
        self.assertEqual((lot, grades), ([2, 0], [3, 1, 2]))


if __name__ == "__main__":
    unittest.main()
