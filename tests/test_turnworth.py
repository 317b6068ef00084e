"""Point 37: the mean worths of the turns of a run."""

import unittest
from fractions import Fraction

from copyrates.sayrows import says
from copyrates.turnworth import turns, turns_by_run
from copyrates.worlds import World
from tests.kit import BIG, Checks, lots, pair, path_web, ring_takes, some_linked, table

CALLS = (turns, turns_by_run)


def trial_worlds():
    found = []
    for size, zeros in ((2, 0), (3, 2), (4, 3), (5, 4)):
        found.extend(some_linked(size, 12, 37 * size, zeros=zeros, calls=False)[:5])
    found.extend([World(ring_takes(5)), World(path_web([2, 0, 3, 1])), World([[0, BIG], [1, 0]])])
    return found


def great_worlds():
    found = some_linked(6, 20, 6, zeros=5, calls=False)[:3]
    return found + [World(table(6, lambda i, j: BIG - i - 6 * j)), World(ring_takes(6))]


class Turns(Checks):
    def formula(self, world, lot):
        worth = [Fraction(*entry) for entry in says(world)]
        inside = sum(worth[i] for i in lot)
        some = sum(worth[i] ** 2 for i in lot)
        every = sum(part ** 2 for part in worth)
        return (
            pair((inside * (1 - inside) + inside * every - some) / 2),
            pair((inside * (1 - inside) - inside * every + some) / 2),
        )

    def test_says_tell_them(self):
        for world in trial_worlds() + great_worlds():
            for lot in lots(world.size):
                self.same(turns(world, lot), self.formula(world, lot))
                self.same(turns(world, list(reversed(lot))), self.formula(world, lot))

    def test_run_tells_them(self):
        for world in trial_worlds():
            for lot in lots(world.size)[:: 1 if world.size < 5 else 5]:
                self.same(turns_by_run(world, lot), self.formula(world, lot))
                self.same(turns_by_run(world, list(reversed(lot))), self.formula(world, lot))

    def test_what_a_step_adds(self):
        for world in trial_worlds():
            worth = [Fraction(*entry) for entry in says(world)]
            if world.size > 4:
                continue
            for call in CALLS:
                told = {lot: [self.fraction(part) for part in call(world, lot)] for lot in lots(world.size)}
                for lot in lots(world.size):
                    mean = [Fraction(0), Fraction(0)]
                    for i, j in world.ties():
                        after = set(lot) - {i} | ({i} if j in lot else set())
                        chance = Fraction(world.takes[i][j], world.total)
                        for k, turned in enumerate((i not in lot and i in after, i in lot and i not in after)):
                            mean[k] += chance * (worth[i] ** 2 * turned + told[tuple(sorted(after))][k])
                    self.assertEqual(mean, told[lot])

    def test_ends(self):
        for world in trial_worlds() + great_worlds():
            every = tuple(range(world.size))
            for call in CALLS if world.size < 6 else (turns,):
                for lot in ((), [], every, list(every)):
                    self.same(call(world, lot), ((0, 1), (0, 1)))

    def test_both_directions(self):
        for world in trial_worlds() + great_worlds():
            for lot in lots(world.size)[1:-1]:
                up, down = turns(world, lot)
                rest = tuple(i for i in range(world.size) if i not in lot)
                self.same(turns(world, rest), (down, up))
                inside = sum(Fraction(*says(world)[i]) for i in lot)
                self.assertEqual(Fraction(*up) + Fraction(*down), inside * (1 - inside))
                self.assertGreater(Fraction(*up), 0)
                self.assertGreater(Fraction(*down), 0)

    def test_returns_tuples(self):
        for call in CALLS:
            found = call(World(ring_takes(3)), [2, 0])
            self.assertIs(type(found), tuple)
            self.assertEqual([type(part) for part in found], [tuple, tuple])

    def test_great_rates_by_run(self):
        world = World(table(5, lambda i, j: BIG - i - 6 * j))
        self.same(turns_by_run(world, [3, 1]), turns(world, (1, 3)))


class Refused(Checks):
    shut = World([[0, 1, 0], [0, 0, 1], [0, 1, 0]], calls=[[0, 1, 0], [0, 0, 0], [0, 0, 0]])
    calling = World([[0, 1, 1], [1, 0, 1], [1, 1, 0]], calls=[[0, 0, 0], [0, 0, 1], [1, 0, 0]])

    def test_world_first(self):
        for call in CALLS:
            self.refused("NotLinked", (1, 2), call, self.shut, None)
            self.refused("HasCalls", (1, 2), call, self.calling, None)
            self.refused("HasCalls", (2, 0), call, World(ring_takes(3), calls=[[0, 0, 0], [0, 0, 0], [1, 0, 0]]), [0])

    def test_too_many_ahead_of_all(self):
        for world in (World(table(6, lambda i, j: 0)), World(ring_takes(6), calls=ring_takes(6))):
            self.refused("TooMany", 6, turns_by_run, world, None)
        self.refused("NotLinked", (0,), turns, World(table(6, lambda i, j: 0)), None)
        self.refused("HasCalls", (0, 1), turns, World(ring_takes(6), calls=ring_takes(6)), None)

    def test_lot(self):
        for call in CALLS:
            for lot, place in ((None, None), (1, None), ((0, 3), 3), ([1, 1], 1), ((True,), True)):
                self.refused("BadLot", place, call, World(ring_takes(3)), lot)

    def test_arguments_stay(self):
        lot = [2, 0]
        for call in CALLS:
            call(World(ring_takes(3)), lot)
        self.assertEqual(lot, [2, 0])


if __name__ == "__main__":
    unittest.main()
