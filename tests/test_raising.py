"""Point 81: calls made greater."""

import unittest
from fractions import Fraction

from copyrates.raising import helps, raised
from copyrates.shapes import line
from copyrates.wins import win_row
from copyrates.worlds import World, web_of
from tests.kit import (
    BIG, NO_WHOLE, Checks, fractions, lots, number_of_places, path_web, rest, ring_takes, some_worlds, table
)
from tests.test_wins import linked_worlds

SHUT = World([[0, 1, 0], [0, 0, 1], [0, 1, 0]], calls=[[0, 1, 0], [0, 0, 0], [0, 0, 0]])
RING = World(ring_takes(3))
NO_TIE = (None, 3, "01", (), (0,), (0, 1, 2), (1, 0), [0, 2], (0, 0), (True, 2), (0, 3), (-3, 1), ("0", 1), [[0], 1])


class Raised(Checks):
    def test_rates(self):
        for size in (2, 3, 4, 6):
            for world in some_worlds(size, 3, 70 * size):
                for tie in world.ties():
                    for number in (1, 7, BIG):
                        made = raised(world, list(tie), number)
                        self.assertIs(type(made), World)
                        self.same(made.takes, world.takes)
                        for i in range(size):
                            for j in range(size):
                                wanted = world.calls[i][j] + (number if (i, j) == tie else 0)
                                self.assertEqual(made.calls[i][j], wanted)
                        self.assertEqual(raised(world, tie, number), made)

    def test_refused(self):
        for tie in NO_TIE:
            self.refused("BadTie", tie, raised, RING, tie, None)
        for number in NO_WHOLE + (0, -1):
            self.refused("BadNumber", "number", raised, RING, (0, 1), number)

    def test_arguments_stay(self):
        tie = [2, 0]
        raised(RING, tie, 4)
        self.assertEqual((tie, RING), ([2, 0], World(ring_takes(3))))


class Helps(Checks):
    def test_a_greater_call(self):
        found = []
        for world in linked_worlds((2, 3, 4)):
            row = fractions(win_row(world))
            for tie in world.ties():
                more = fractions(win_row(raised(world, tie, 3)))
                for lot in lots(world.size):
                    at = number_of_places(lot)
                    self.assertGreaterEqual(more[at], row[at])
                    self.assertIs(helps(world, tie, lot), more[at] > row[at])
                    self.assertIs(helps(web_of(world), list(tie), list(lot)[::-1]), more[at] > row[at])
                    found.append((line(world) is None, more[at] > row[at], 0 < len(lot) < world.size))
        self.assertEqual(set(found), {
            (True, True, True), (True, False, False), (False, True, True), (False, False, True), (False, False, False)
        })

    def test_lines_by_their_order(self):
        for order in ([0, 1], [1, 2, 0], [2, 0, 3, 1], [4, 1, 3, 0, 2]):
            world = World(path_web(order, lambda i, j: 1 + (i + 2 * j) % 3))
            at = {place: k for k, place in enumerate(order)}
            for i, j in world.ties():
                for lot in lots(len(order)):
                    wanted = any(
                        (at[p] < at[u]) == (at[j] < at[i]) for p in lot for u in rest(lot, len(order))
                    )
                    self.assertIs(helps(world, (i, j), lot), wanted)

    def test_no_line_helps_all_mixed_lots(self):
        for size in (3, 5):
            world = World(ring_takes(size))
            for tie in world.ties():
                self.assertEqual([helps(world, tie, lot) for lot in lots(size)], [False] + [True] * (2 ** size - 2) + [False])

    def test_more_calls_everywhere(self):
        for world in linked_worlds((2, 3, 4)):
            calls = table(world.size, lambda i, j: world.calls[i][j] + (world.takes[i][j] > 0) * ((i + j) % 3))
            more = fractions(win_row(World(world.takes, calls=calls)))
            self.assertTrue(all(a <= b for a, b in zip(fractions(win_row(world)), more)))
            self.assertEqual(more[-1], Fraction(1))

    def test_refused(self):
        for world in (World([[0] * 6] * 6), World(ring_takes(6))):
            self.refused("TooMany", 6, helps, world, None, None)
        self.refused("NotLinked", (1, 2), helps, SHUT, None, None)
        for tie in NO_TIE:
            self.refused("BadTie", tie, helps, RING, tie, None)
        for lot, place in ((None, None), (1, None), ((0, 3), 3), ([1, 1], 1), ((True,), True)):
            self.refused("BadLot", place, helps, RING, (0, 1), lot)


if __name__ == "__main__":
    unittest.main()
