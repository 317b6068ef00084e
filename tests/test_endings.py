"""Points 62 and 64 to 67, 72: where jury steps end, lit, differences, other grades, more calls, one or two held places."""

import random
import unittest
from fractions import Fraction

from copyrates.endings import both_ways, end_chances, lasting_greatest, lit
from copyrates.helds import free_places, held_world, stubborn_places
from copyrates.lastings import all_zero, lasting_lots
from copyrates.worlds import World, with_calls
from tests.kit import (
    BIG, NO_WHOLE, Checks, back_moves, lots, number_of_places, pair, rest, ring_takes, some_held, some_linked,
    stubborn, table, union, within
)

PAIRED = World([[0, 1, 0], [1, 0, 0], [1, 0, 0]])
HELD = World([[0, 1, 2], [0, 0, 0], [0, 0, 0]], calls=[[0, 3, 0], [0, 0, 0], [0, 0, 0]])


def great_world(size, kept):
    """Great rates; only the kept places are free."""
    web = table(size, lambda i, j: BIG - 6 * i - j if i in kept else 0)
    return World(web, calls=table(size, lambda i, j: BIG if i in kept and i < j else 0))


def trial_worlds(sizes=(2, 3, 4, 5)):
    found = [great_world(2, (0,)), great_world(4, (1, 3)), great_world(5, (0, 2, 4)), great_world(5, (3,)), HELD]
    for size in sizes:
        found.extend(some_held(size, 4, 5 * size))
        found.extend(some_held(size, 2, 6 * size, calls=False))
    return [world for world in found if world.size in sizes]


def ends_of(world, lot):
    return {end: Fraction(*chance) for end, chance in end_chances(world, lot)}


class Ends(Checks):
    def test_equations(self):
        for world in trial_worlds():
            every = {lot: ends_of(world, lot) for lot in lots(world.size)[1:]}
            for lot, ends in every.items():
                self.assertEqual(sum(ends.values()), 1)
                for end in ends:
                    self.assertTrue(end and set(end) <= set(stubborn(world)))
                if set(lot) <= set(stubborn(world)):
                    self.assertEqual(ends, {lot: 1})
                    continue
                moves = back_moves(world, lot)
                for end in lots(world.size):
                    total = sum(rate * every[reached].get(end, 0) for reached, rate in moves.items())
                    self.assertEqual(total, ends.get(end, 0) * sum(moves.values()))

    def test_form(self):
        for world in trial_worlds():
            for lot in lots(world.size)[1:]:
                found = self.told(end_chances(world, list(lot)[::-1]))
                self.assertIs(type(found), tuple)
                numbers = [number_of_places(end) for end, chance in found]
                self.assertEqual(numbers, sorted(set(numbers)))
                self.assertTrue(all(self.fraction(chance) > 0 for end, chance in found))

    def test_plain(self):
        self.same(end_chances(HELD, [2, 1]), (((1, 2), (1, 1)),))
        self.same(end_chances(HELD, (0, 1)), (((1,), (1, 3)), ((1, 2), (2, 3))))
        self.same(end_chances(World([[0, BIG], [0, 0]]), [0]), (((1,), (1, 1)),))


class Lit(Checks):
    def test_sum_of_ends(self):
        for world in trial_worlds():
            for lot in lots(world.size)[1:: 1 if world.size < 5 else 3]:
                ends = ends_of(world, lot)
                for holders in within(stubborn(world)):
                    wanted = sum(chance for end, chance in ends.items() if set(end) & set(holders))
                    self.same(lit(world, lot, holders), pair(wanted))
                    self.same(lit(world, list(lot)[::-1], list(holders)[::-1]), pair(wanted))

    def test_sum_of_lasting_lots(self):
        for world in trial_worlds((2, 3, 4)):
            free = free_places(world)
            if len(free) > 3:
                continue
            for holders in within(stubborn(world)):
                lasting = {lot: Fraction(*chance) for lot, chance in lasting_lots(world, holders)}
                for lot in within(free):
                    wanted = sum(chance for other, chance in lasting.items() if set(other) & set(lot))
                    self.same(lit(world, lot, holders), pair(wanted))

    def test_plain_lots(self):
        for world in trial_worlds():
            for holders in within(stubborn(world)):
                self.same(lit(world, (), holders), (0, 1))
                for place in stubborn(world):
                    self.same(lit(world, [place], holders), (int(place in holders), 1))
                for place in holders:
                    self.same(lit(world, union([place], free_places(world)), holders), (1, 1))

    def test_differences_by_holders(self):
        for world in trial_worlds((3, 4)):
            for lot in lots(world.size)[1::2]:
                ends = ends_of(world, lot)
                for extra in within(stubborn(world))[1:]:
                    for base in within([z for z in stubborn(world) if z not in extra]):
                        total = sum(
                            (-1) ** (len(part) + 1) * Fraction(*lit(world, lot, union(base, part)))
                            for part in within(extra)
                        )
                        wanted = [c for end, c in ends.items() if set(extra) <= set(end) and not set(base) & set(end)]
                        self.assertEqual(total, sum(wanted))

    def test_differences_by_free_places(self):
        for world in trial_worlds((3, 4)):
            free = free_places(world)
            if len(free) > 3:
                continue
            for holders in within(stubborn(world)):
                lasting = {lot: Fraction(*chance) for lot, chance in lasting_lots(world, holders)}
                for extra in within(free)[1:]:
                    for base in within([i for i in free if i not in extra]):
                        total = sum(
                            (-1) ** (len(part) + 1) * Fraction(*lit(world, union(base, part), holders))
                            for part in within(extra)
                        )
                        wanted = [c for lot, c in lasting.items() if set(extra) <= set(lot) and not set(base) & set(lot)]
                        self.assertEqual(total, sum(wanted))

    def test_more_calls(self):
        draw = random.Random(67)
        for world in trial_worlds((3, 4)):
            more = [[c + draw.choice((0, 1, 4)) * (t > 0) for c, t in zip(*rows)] for rows in zip(world.calls, world.takes)]
            other = with_calls(world, more)
            for lot in lots(world.size):
                for holders in within(stubborn(world)):
                    self.assertLessEqual(Fraction(*lit(world, lot, holders)), Fraction(*lit(other, lot, holders)))

    def test_zeros_go_together(self):
        for world in trial_worlds((3, 4)):
            for holders in within(stubborn(world)):
                dark = {lot: Fraction(*all_zero(world, lot, holders)) for lot in lots(world.size)}
                for one in dark:
                    for other in dark:
                        self.assertGreaterEqual(dark[union(one, other)], dark[one] * dark[other])


class OneOrTwoHeld(Checks):
    def test_one(self):
        for size in (2, 3, 5):
            for world in some_linked(size, 12, 9 * size, zeros=size - 1)[:3]:
                for p in range(size):
                    held = held_world(world, [p])
                    for lot in lots(size)[1:]:
                        self.same(lit(held, lot, (p,)), (1, 1))
                        self.same(lit(held, lot, ()), (0, 1))

    def test_two(self):
        for size in (3, 4, 5):
            for world in some_linked(size, 12, 8 * size, zeros=size - 1)[:2]:
                for p, u in ((0, 1), (size - 1, 0), (1, 2)):
                    held = held_world(world, [p, u])
                    for i in range(size):
                        down = ends_of(held, [i]).get((u,), 0)
                        self.assertEqual(Fraction(*lit(held, [i], [p])) + down, 1)


class Greatest(Checks):
    def test_sums(self):
        draw = random.Random(66)
        for world in trial_worlds():
            for top in (1, 3, 10 ** 12):
                grades = [draw.randrange(-top, top + 1) for _ in range(world.size)]
                for lot in lots(world.size)[1:: 1 if world.size < 5 else 3]:
                    ends = ends_of(world, lot)
                    found = self.told(lasting_greatest(world, lot, grades))
                    self.assertTrue(all(self.fraction(chance) > 0 for grade, chance in found))
                    self.assertEqual([grade for grade, chance in found], sorted({grade for grade, chance in found}))
                    for grade in grades + [-top - 1, top + 1]:
                        some = [c for end, c in ends.items() if max(grades[z] for z in end) <= grade]
                        self.assertEqual(sum(Fraction(*c) for own, c in found if own <= grade), sum(some))

    def test_free_entries_play_no_part(self):
        self.same(lasting_greatest(HELD, [0, 1], [-7, 4, 6]), lasting_greatest(HELD, (0, 1), (10 ** 12, 4, 6)))
        self.same(lasting_greatest(HELD, [2], [9, 4, -6]), ((-6, (1, 1)),))
        self.same(lasting_greatest(HELD, [0], [9, 4, 4]), ((4, (1, 1)),))


class BothWays(Checks):
    def test_rows(self):
        for world in trial_worlds() + [great_world(5, (0, 1, 3)), great_world(4, (2,))]:
            free = free_places(world)
            if len(free) > 3:
                self.refused("TooMany", len(free), both_ways, world)
                continue
            found = self.told(both_ways(world))
            self.assertEqual([holders for holders, row in found], within(stubborn(world)))
            for holders, row in found:
                self.same(row, tuple(lit(world, lot, holders) for lot in within(free)))

    def test_plain(self):
        rows = (((), ((0, 1), (0, 1))), ((1,), ((0, 1), (2, 3))), ((2,), ((0, 1), (2, 3))), ((1, 2), ((0, 1), (1, 1))))
        self.same(both_ways(HELD), rows)

    def test_order_of_numbers(self):
        world = World([[0, 0, 0, 0], [1, 0, 0, 2], [0, 3, 0, 1], [0, 0, 0, 0]])
        found = both_ways(world)
        self.assertEqual([holders for holders, row in found], [(), (0,), (3,), (0, 3)])
        self.same(found[2][1], tuple(lit(world, lot, (3,)) for lot in ((), (1,), (2,), (1, 2))))
        self.same(found[2][1][1:3], ((2, 3), (3, 4)))


class Refused(Checks):
    calls = (end_chances, lit, lasting_greatest, lasting_lots, all_zero, both_ways)
    many = {end_chances: 1, lit: 2, lasting_greatest: 2, lasting_lots: 1, all_zero: 2, both_ways: 0}

    def test_world_first(self):
        for call in self.calls:
            args = (None,) * self.many[call]
            self.refused("TooMany", 6, call, World([[0] * 6] * 6), *args)
            self.refused("TooMany", 6, call, World(table(6, lambda i, j: int(i == 0))), *args)
            self.refused("NotHeld", (0, 1), call, PAIRED, *args)
            self.refused("NotHeld", (), call, World([[0] * 5] * 5), *args)
            self.refused("NotHeld", (0, 1, 2, 3, 4), call, World(ring_takes(5)), *args)

    def test_many_free(self):
        four = World(table(5, lambda i, j: int(j == 2)))
        for call in (lasting_lots, both_ways):
            self.refused("TooMany", 4, call, four, *(None,) * self.many[call])
        # The other functions take worlds with four free places.
        self.same(end_chances(four, (0, 1, 3, 4)), (((2,), (1, 1)),))
        self.same(all_zero(four, (0, 4), ()), (1, 1))

    def test_lots(self):
        for lot, place in ((None, None), (1, None), ("0", None), ((0, 3), 3), ([1, 1], 1), ((True,), True), ((-1,), -1)):
            self.refused("BadLot", place, end_chances, HELD, lot)
            self.refused("BadLot", place, lasting_greatest, HELD, lot, None)
            for call in (lit, all_zero):
                self.refused("BadLot", place, call, HELD, lot, (0,))
                self.refused("BadLot", place, call, HELD, (0,), lot)
            self.refused("BadLot", place, lasting_lots, HELD, lot)
        self.refused("BadLot", None, end_chances, HELD, ())
        self.refused("BadLot", None, lasting_greatest, HELD, [], None)

    def test_holders(self):
        world = World([[0, 0, 0, 0], [1, 0, 0, 2], [0, 3, 0, 1], [0, 0, 0, 0]])
        for holders, place in (((1,), 1), ((0, 2, 1), 1), ([3, 2], 2), ((0, 7, 1), 7)):
            for call in (lit, all_zero):
                self.refused("BadLot", place, call, world, (), holders)
            self.refused("BadLot", place, lasting_lots, world, holders)

    def test_grades(self):
        for grades in (None, 3, "abc", (), [1, 2], (1, 2, 3, 4)):
            self.refused("BadGrades", -1, lasting_greatest, HELD, (0,), grades)
        for entry in NO_WHOLE:
            self.refused("BadGrades", 0, lasting_greatest, HELD, (1,), (entry, 1, entry))

    def test_arguments_stay(self):
        lot, holders, grades = [1, 0], [2, 1], [3, 1, 2]
        found = (
            lit(HELD, lot, holders), end_chances(HELD, lot), lasting_greatest(HELD, lot, grades), all_zero(HELD, lot, holders),
            lasting_lots(HELD, holders),
        )
        self.told(found)
        self.assertEqual((lot, holders, grades), ([1, 0], [2, 1], [3, 1, 2]))


class Trials(Checks):
    def test_kinds(self):
        """The trials have worlds with one and with three free places, with calls and without."""
        worlds = trial_worlds()
        self.assertLessEqual({1, 3}, {len(free_places(world)) for world in worlds})
        self.assertEqual({world.steady for world in worlds}, {True, False})
        self.assertTrue(all(stubborn_places(world) == stubborn(world) for world in worlds))
        self.assertTrue(all(rest(stubborn(world), world.size) == free_places(world) for world in worlds))


if __name__ == "__main__":
    unittest.main()
