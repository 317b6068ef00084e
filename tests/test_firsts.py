"""Points 68 to 71: walks in held worlds, covariance, numbers and independence."""

import random
import unittest
from fractions import Fraction

from copyrates.endings import end_chances, lit
from copyrates.firsts import covariance, first_meetings, independent_lot, number_covariance, sure_places, tied_pair
from copyrates.helds import free_places
from copyrates.lastings import all_zero
from copyrates.worlds import World
from tests.kit import (
    BIG, NO_WHOLE, Checks, lots, pair, reach_of, ring_takes, solve, some_held, stubborn, table, within
)

PAIRED = World([[0, 1, 0], [1, 0, 0], [1, 0, 0]], calls=[[0, 0, 0], [1, 0, 0], [0, 0, 0]])
CALLING = World([[0, 1, 1], [0, 0, 0], [0, 0, 0]], calls=[[0, 0, 1], [0, 0, 0], [0, 0, 0]])
FOUR = World([[0, 1, 1, 0], [1, 0, 0, 1], [0, 0, 0, 0], [0, 0, 0, 0]])


def trial_worlds(sizes=(2, 3, 4, 5)):
    found = [FOUR, World([[0, BIG], [0, 0]]), World(table(5, lambda i, j: int(j == 2)))]
    # Two pairs of places that have nothing in common, and a chain of free places.
    found.append(World(table(5, lambda i, j: int((i, j) in ((0, 2), (1, 3), (1, 4))))))
    found.append(World(table(5, lambda i, j: int((i, j) in ((0, 1), (1, 2), (2, 3), (2, 4), (1, 4))))))
    found.append(World(table(5, lambda i, j: BIG - 6 * i - j if i in (0, 1, 3) else 0)))
    for size in sizes:
        found.extend(some_held(size, 7, 15 * size, calls=False))
    return [world for world in found if world.size in sizes]


def meet(world):
    """meet(i, j; k) for all pairs of free places, by equations of their first take."""
    free = free_places(world)
    pairs = [(i, j) for i in free for j in free if i != j]
    found = {(i, i): {i: Fraction(1)} for i in free}
    if not pairs:
        return found
    for k in free:
        rows = []
        for i, j in pairs:
            row = [0] * (len(pairs) + 1)
            for a in range(world.size):
                for reached, take in (((a, j), world.takes[i][a]), ((i, a), world.takes[j][a])):
                    row[pairs.index((i, j))] += take
                    if reached in pairs:
                        row[pairs.index(reached)] -= take
                    elif reached == (k, k):
                        row[-1] += take
            rows.append(row)
        for two, chance in zip(pairs, solve(rows)):
            found.setdefault(two, {})[k] = chance
    return found


def ends_of_both(world):
    """For each two places, the chance of each pair of places at which their walks, moved by the same takes, end."""
    held, size = stubborn(world), world.size
    states = [(i, j) for i in range(size) for j in range(size) if not (i in held and j in held)]
    goals = [(z, w) for z in held for w in held]
    found = {two: {goal: Fraction(two == goal) for goal in goals} for two in goals}
    for goal in goals:
        rows = []
        for i, j in states:
            row = [0] * (len(states) + 1)
            for at, place in enumerate(dict.fromkeys((i, j))):
                for a in range(size):
                    take = world.takes[place][a]
                    reached = (a if i == place else i, a if j == place else j)
                    row[states.index((i, j))] += take
                    if reached in states:
                        row[states.index(reached)] -= take
                    elif reached == goal:
                        row[-1] += take
            rows.append(row)
        for two, chance in zip(states, solve(rows)):
            found.setdefault(two, {})[goal] = chance
    return found


def height(world, place, holders):
    return Fraction(*lit(world, [place], holders))


class Meetings(Checks):
    def test_chances(self):
        for world in trial_worlds():
            found, free = meet(world), free_places(world)
            for i in range(world.size):
                for j in range(world.size):
                    wanted = found.get((i, j), {})
                    wanted = tuple((k, pair(wanted[k])) for k in sorted(wanted) if wanted[k] > 0)
                    self.same(first_meetings(world, i, j), wanted)
                    if i not in free or j not in free:
                        self.same(first_meetings(world, i, j), ())
                    elif i == j:
                        self.same(first_meetings(world, i, j), ((i, (1, 1)),))

    def test_sure_places(self):
        for world in trial_worlds():
            for holders in within(stubborn(world)):
                heights = [height(world, place, holders) for place in range(world.size)]
                wanted = tuple(place for place, worth in enumerate(heights) if worth in (0, 1))
                self.same(sure_places(world, list(holders)[::-1]), wanted)
                self.assertTrue(set(stubborn(world)) <= set(wanted))

    def test_walk_ends(self):
        for world in trial_worlds((2, 3, 4)):
            both = ends_of_both(world)
            for i in range(world.size):
                ends = {lot: Fraction(*chance) for lot, chance in end_chances(world, [i])}
                for z in stubborn(world):
                    self.assertEqual(both[(i, i)][(z, z)], ends.get((z,), 0))


class Covariance(Checks):
    def test_definition(self):
        for world in trial_worlds():
            for holders in within(stubborn(world))[:: 1 if world.size < 5 else 3]:
                h = [height(world, place, holders) for place in range(world.size)]
                for i in range(world.size):
                    for j in range(world.size):
                        both = [i, j] if i != j else [i]
                        wanted = h[i] + h[j] - Fraction(*lit(world, both, holders)) - h[i] * h[j]
                        self.same(covariance(world, i, j, list(holders)[::-1]), pair(wanted))
                        self.assertGreaterEqual(wanted, 0)

    def test_numbers(self):
        draw = random.Random(70)
        for world in trial_worlds((2, 3, 4)):
            both, held = ends_of_both(world), stubborn(world)
            for top in (1, 9, 10 ** 12):
                v = [draw.randrange(-top, top + 1) for _ in range(world.size)]
                for i in range(world.size):
                    for j in range(world.size):
                        mean = sum(c * v[z] * v[w] for (z, w), c in both[(i, j)].items())
                        one = sum(both[(i, i)][(z, z)] * v[z] for z in held)
                        other = sum(both[(j, j)][(z, z)] * v[z] for z in held)
                        self.same(number_covariance(world, i, j, v), pair(mean - one * other))

    def test_grades_as_numbers(self):
        for world in trial_worlds():
            for holders in within(stubborn(world))[::3]:
                row = tuple(int(place in holders) for place in range(world.size))
                for i in range(world.size):
                    self.same(number_covariance(world, i, 0, row), covariance(world, i, 0, holders))

    def test_free_entries_play_no_part(self):
        self.same(number_covariance(FOUR, 0, 1, [5, 7, 0, 3]), number_covariance(FOUR, 0, 1, (-9, 0, 0, 3)))
        self.same(number_covariance(FOUR, 0, 1, [0, 0, 0, 3]), (1, 1))
        self.same(number_covariance(FOUR, 0, 1, [5, 7, 4, 4]), (0, 1))
        self.same(covariance(FOUR, 0, 0, [3]), (2, 9))
        self.same(covariance(FOUR, 0, 2, [3]), (0, 1))
        self.same(covariance(FOUR, 2, 2, [2]), (0, 1))


class Independence(Checks):
    def independent(self, world, lot, holders):
        for part in within(lot):
            product = Fraction(1)
            for place in part:
                product *= 1 - height(world, place, holders)
            if Fraction(*all_zero(world, part, holders)) != product:
                return False
        return True

    def test_definition(self):
        found = []
        for world in trial_worlds((2, 3, 4)):
            for lot in lots(world.size):
                for holders in within(stubborn(world)):
                    wanted = self.independent(world, lot, holders)
                    self.assertIs(independent_lot(world, list(lot)[::-1], list(holders)[::-1]), wanted)
                    pairs = [(i, j) for i in lot for j in lot if i != j]
                    self.assertEqual(all(covariance(world, i, j, holders) == (0, 1) for i, j in pairs), wanted)
                    found.append(wanted)
        self.assertEqual(set(found), {True, False})

    def test_tied_pair(self):
        for world in trial_worlds():
            chances = meet(world)
            for lot in lots(world.size)[:: 1 if world.size < 5 else 3]:
                for holders in within(stubborn(world)):
                    sure = sure_places(world, holders)
                    triples = [
                        (i, j, k) for i in lot for j in lot if i < j for k, chance in chances.get((i, j), {}).items()
                        if chance > 0 and k not in sure
                    ]
                    self.same(tied_pair(world, lot, holders), min(triples, default=None))
                    self.same(tied_pair(world, list(lot)[::-1], holders), min(triples, default=None))
                    self.assertIs(independent_lot(world, lot, holders), not triples)

    def test_at_all_holders(self):
        found = []
        for world in trial_worlds((3, 4)):
            for lot in lots(world.size):
                every = all(independent_lot(world, lot, holders) for holders in within(stubborn(world)))
                places = {k for i in lot for j in lot if i != j for k, chance in first_meetings(world, i, j)}
                single = all(len(set(reach_of(world.takes, k)) & set(stubborn(world))) == 1 for k in places)
                self.assertEqual(every, single)
                found.append((every, len(places) > 0))
        self.assertLessEqual({(True, True), (False, True), (True, False)}, set(found))

    def test_small_and_stubborn_lots(self):
        for world in trial_worlds():
            for holders in within(stubborn(world)):
                for lot in [()] + [(i,) for i in range(world.size)] + [stubborn(world)]:
                    self.assertIs(independent_lot(world, lot, holders), True)
                    self.assertIsNone(tied_pair(world, lot, holders))


class Refused(Checks):
    calls = {
        first_meetings: 2, sure_places: 1, covariance: 3, number_covariance: 3, independent_lot: 2, tied_pair: 2,
    }

    def test_world_first(self):
        for call, many in self.calls.items():
            args = (None,) * many
            self.refused("TooMany", 6, call, World([[0] * 6] * 6), *args)
            self.refused("TooMany", 6, call, World(ring_takes(6), calls=ring_takes(6)), *args)
            self.refused("NotHeld", (0, 1), call, PAIRED, *args)
            self.refused("NotHeld", (), call, World([[0] * 2] * 2), *args)
            self.refused("HasCalls", (0, 2), call, CALLING, *args)

    def test_places(self):
        for place in (-1, 4, True, None, "0", (0,)):
            for call, more in ((first_meetings, ()), (covariance, (None,)), (number_covariance, (None,))):
                self.refused("BadPlace", place, call, FOUR, place, 9, *more)
                self.refused("BadPlace", place, call, FOUR, 0, place, *more)

    def test_lots_and_holders(self):
        for lot, place in ((None, None), (1, None), ((0, 4), 4), ([1, 1], 1), ((True,), True)):
            for call in (independent_lot, tied_pair):
                self.refused("BadLot", place, call, FOUR, lot, (0,))
                self.refused("BadLot", place, call, FOUR, (0,), lot)
            self.refused("BadLot", place, sure_places, FOUR, lot)
            self.refused("BadLot", place, covariance, FOUR, 0, 0, lot)
        for call, args in (
            (sure_places, ()), (covariance, (0, 1)), (independent_lot, ((),)), (tied_pair, ((),)),
        ):
            self.refused("BadLot", 1, call, FOUR, *args, (2, 1))
            self.refused("BadLot", 0, call, FOUR, *args, [1, 3, 0])

    def test_numbers(self):
        for numbers in (None, 3, "abcd", (), [1, 2, 3], (1, 2, 3, 4, 5)):
            self.refused("BadGrades", -1, number_covariance, FOUR, 0, 1, numbers)
        for entry in NO_WHOLE:
            self.refused("BadGrades", 1, number_covariance, FOUR, 0, 1, (1, entry, entry, 1))

    def test_arguments_stay(self):
        lot, holders, numbers = [1, 0], [3, 2], [3, 1, 2, 0]
        self.told((
            first_meetings(FOUR, 0, 1), sure_places(FOUR, holders), covariance(FOUR, 0, 1, holders),
            number_covariance(FOUR, 0, 1, numbers), independent_lot(FOUR, lot, holders), tied_pair(FOUR, lot, [2]),
        ))
        self.assertEqual((lot, holders, numbers), ([1, 0], [3, 2], [3, 1, 2, 0]))


if __name__ == "__main__":
    unittest.main()
