"""Points 61 and 73: held worlds, and heads as places."""

import unittest

from copyrates.helds import free_places, headed, held_world, is_held, stubborn_places
from copyrates.linking import heads
from copyrates.worlds import World
from tests.kit import (
    BIG, Checks, head_lots, held_takes, lots, reach_of, rest, ring_takes, some_held, some_linked, some_worlds, stubborn, table
)

CALLS = (stubborn_places, free_places)
# Two places that look at each other are the one head.
PAIRED = World([[0, 1, 0], [1, 0, 0], [1, 0, 0]])


def trial_worlds():
    found = []
    for size in (2, 3, 4, 5, 6):
        found.extend(some_held(size, 12, 7 * size))
        found.extend(some_worlds(size, 20, 19 * size, zeros=2 * size + 3))
        found.append(World(ring_takes(size)))
        found.append(World([[0] * size] * size))
    return found + [PAIRED]


class Held(Checks):
    def test_is_held(self):
        found = []
        for world in trial_worlds():
            some = head_lots(world)
            wanted = all(len(head) == 1 for head in some) and len(some) < world.size
            self.assertIs(is_held(world), wanted)
            found.append(wanted)
            if wanted and world.size < 6:
                self.same(stubborn_places(world), tuple(sorted(sum(some, ()))))
                self.same(free_places(world), rest(stubborn_places(world), world.size))
                self.assertEqual(stubborn_places(world), stubborn(world))
                for i in free_places(world):
                    self.assertTrue(set(reach_of(world.takes, i)) & set(stubborn(world)))
        self.assertEqual(set(found), {True, False})

    def test_laid_aside(self):
        for world in trial_worlds()[::3] + some_linked(6, 9, 4)[:2]:
            for lot in lots(world.size)[:: world.size - 1]:
                made = held_world(world, list(lot)[::-1])
                self.assertIs(type(made), World)
                self.assertEqual(made, World(held_takes(world.takes, lot), calls=held_takes(world.calls, lot)))

    def test_linked_worlds_get_held(self):
        for size in (2, 3, 4, 5):
            for world in some_linked(size, 12, 3 * size, zeros=size - 1)[:4]:
                for lot in lots(size)[1:-1]:
                    self.assertTrue(is_held(held_world(world, lot)))
                    self.same(stubborn_places(held_world(world, lot)), lot)
                self.assertFalse(is_held(held_world(world, ())))
                self.assertFalse(is_held(held_world(world, list(range(size)))))
                self.assertEqual(held_world(world, []), world)

    def test_refused(self):
        for call in CALLS:
            self.refused("TooMany", 6, call, World([[0] * 6] * 6))
            self.refused("TooMany", 6, call, World(ring_takes(6)))
            self.refused("NotHeld", (0, 1), call, PAIRED)
            self.refused("NotHeld", (), call, World([[0] * 5] * 5))
            two = World(table(5, lambda i, j: 1 if (i, j) in ((1, 3), (3, 1), (2, 4), (4, 2), (0, 1)) else 0))
            self.refused("NotHeld", (1, 3), call, two)
            mixed = World(table(4, lambda i, j: 1 if (i, j) in ((1, 2), (2, 3), (3, 1)) else 0))
            self.refused("NotHeld", (1, 2, 3), call, mixed)
        for lot, place in ((None, None), (1, None), ((0, 3), 3), ([1, 1], 1), ((True,), True)):
            self.refused("BadLot", place, held_world, PAIRED, lot)

    def test_lot_stays(self):
        lot = [2, 0]
        held_world(PAIRED, lot)
        self.assertEqual(lot, [2, 0])


class Headed(Checks):
    def check(self, world):
        made, found, others = headed(world)
        self.same(found, heads(world))
        self.assertEqual(set(found), set(head_lots(world)))
        self.same(others, rest(sum(found, ()), world.size))
        groups = found + tuple((place,) for place in others)
        self.assertEqual(made.size, len(groups))
        for rows, wanted in ((made.takes, world.takes), (made.calls, world.calls)):
            for at, one in enumerate(groups):
                for k, other in enumerate(groups):
                    total = 0 if at < len(found) else sum(wanted[i][j] for i in one for j in other)
                    self.assertEqual(rows[at][k], total)
        self.assertTrue(is_held(made))
        self.assertEqual(stubborn(made), tuple(range(len(found))))

    def test_headed(self):
        many = 0
        for world in trial_worlds():
            if len(sum(head_lots(world), ())) < world.size:
                self.check(world)
                many += 1
            else:
                self.refused("NotHeld", (), headed, world)
        self.assertGreater(many, 40)

    def test_plain(self):
        world = World(
            [[0, 2, 3, 5, 0], [0, 0, 0, 0, 1], [0, 0, 0, 0, 0], [7, 0, 1, 0, 4], [0, 6, 0, 0, 0]],
            calls=[[0, 1, 0, 2, 0], [0, 0, 0, 0, 1], [0, 0, 0, 0, 0], [3, 0, 1, 0, 1], [0, 0, 0, 0, 0]],
        )
        made, found, others = headed(world)
        self.same((found, others), (((1, 4), (2,)), (0, 3)))
        self.same(made.takes, ((0, 0, 0, 0), (0, 0, 0, 0), (2, 3, 0, 5), (4, 1, 7, 0)))
        self.same(made.calls, ((0, 0, 0, 0), (0, 0, 0, 0), (1, 0, 0, 2), (1, 1, 3, 0)))

    def test_one_head_of_one_place(self):
        world = World([[0, BIG], [0, 0]], calls=[[0, BIG], [0, 0]])
        made, found, others = headed(world)
        self.same((made.takes, made.calls, found, others), (((0, 0), (BIG, 0)), ((0, 0), (BIG, 0)), ((1,),), (0,)))


if __name__ == "__main__":
    unittest.main()
