"""The search for least rows of moves: what it returns, and in which order."""

import random
import unittest

from copyrates.searching import least_rows


def layers(starts, moves):
    """Least rows of moves, found layer by layer."""
    rows = {state: () for state in starts}
    edge = list(starts)
    while edge:
        found = []
        for state in list(edge):
            for move, reached in moves(state):
                if reached not in rows:
                    rows[reached] = rows[state] + (move,)
                    found.append(reached)
        edge = list(found)
    return rows


class Searching(unittest.TestCase):
    def test_rows_and_their_order(self):
        draw = random.Random(6)
        for size in (1, 2, 5, 12, 40):
            for _ in range(20):
                after = {
                    k: [(draw.choice("abc"), draw.randrange(size)) for _ in range(draw.randrange(4))] for k in range(size)
                }
                starts = [draw.randrange(size) for _ in range(draw.randrange(1, 4))]
                first = list(starts)
                found = least_rows(starts, after.get)
                self.assertEqual(list(found.items()), list(layers(starts, after.get).items()))
                self.assertEqual(starts, first)

    def test_no_starts(self):
        self.assertEqual(least_rows([], lambda state: []), {})

    def test_plain(self):
        after = {0: [("a", 1), ("b", 2)], 1: [("c", 0), ("d", 3)], 2: [("e", 3)], 3: []}
        found = least_rows([0], lambda state: after[state])
        self.assertEqual(list(found.items()), [(0, ()), (1, ("a",)), (2, ("b",)), (3, ("a", "d"))])


if __name__ == "__main__":
    unittest.main()
