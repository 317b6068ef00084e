"""Point 63: the lasting chances of lots of free places."""

import unittest
from fractions import Fraction

from copyrates.helds import free_places
from copyrates.lastings import all_zero, lasting_lots
from copyrates.endings import lit
from copyrates.worlds import World
from tests.kit import BIG, Checks, lots, number_of_places, pair, some_held, start_moves, stubborn, table, within


def trial_worlds():
    found = []
    for size in (2, 3, 4, 5):
        found.extend(some_held(size, 6, 13 * size))
        found.extend(some_held(size, 3, 14 * size, calls=False))
    for kept in ((0,), (1, 3), (0, 2, 4), (3, 4)):
        web = table(5, lambda i, j: BIG - 6 * i - j if i in kept else 0)
        found.append(World(web, calls=table(5, lambda i, j: BIG if i in kept and i > j else 0)))
    found.append(World([[0, BIG], [0, 0]]))
    return [world for world in found if len(free_places(world)) < 4]


class Lasting(Checks):
    def test_one_step_keeps_them(self):
        for world in trial_worlds():
            free = free_places(world)
            for holders in within(stubborn(world)):
                chances = {lot: self.fraction(chance) for lot, chance in lasting_lots(world, holders)}
                self.assertEqual(sum(chances.values()), 1)
                gain = {}
                for lot in within(free):
                    whole = tuple(sorted(lot + holders))
                    for reached, rate in start_moves(world, whole).items():
                        inside = tuple(i for i in reached if i in free)
                        flow = chances.get(lot, 0) * rate
                        gain[inside] = gain.get(inside, 0) + flow
                        gain[lot] = gain.get(lot, 0) - flow
                self.assertEqual(set(gain.values()) | {0}, {0})

    def test_form(self):
        for world in trial_worlds():
            for holders in within(stubborn(world)):
                found = self.told(lasting_lots(world, list(holders)[::-1]))
                self.assertIs(type(found), tuple)
                self.same(found, lasting_lots(world, holders))
                numbers = [number_of_places(lot) for lot, chance in found]
                self.assertEqual(numbers, sorted(set(numbers)))
                for lot, chance in found:
                    self.assertTrue(set(lot) <= set(free_places(world)))
                    self.assertGreater(self.fraction(chance), 0)

    def test_none_and_all_stubborn(self):
        for world in trial_worlds():
            self.same(lasting_lots(world, ()), (((), (1, 1)),))
            self.same(lasting_lots(world, stubborn(world)), ((free_places(world), (1, 1)),))

    def test_plain(self):
        held = World([[0, 1, 2], [0, 0, 0], [0, 0, 0]], calls=[[0, 3, 0], [0, 0, 0], [0, 0, 0]])
        self.same(lasting_lots(held, [1]), (((), (1, 3)), ((0,), (2, 3))))
        self.same(lasting_lots(held, [2]), (((), (1, 3)), ((0,), (2, 3))))

    def test_all_zero(self):
        for world in trial_worlds():
            for holders in within(stubborn(world)):
                found = {lot: Fraction(*chance) for lot, chance in lasting_lots(world, holders)}
                for lot in lots(world.size)[:: 1 if world.size < 5 else 3]:
                    dark = sum(c for own, c in found.items() if not (set(own) | set(holders)) & set(lot))
                    self.same(all_zero(world, list(lot)[::-1], holders), pair(dark))
                    self.assertEqual(Fraction(*lit(world, lot, holders)), 1 - dark)


if __name__ == "__main__":
    unittest.main()
