"""Points 121 to 124: notes of calls that are not seen."""

import random
import unittest
from fractions import Fraction
from itertools import product

from copyrates.endings import lit
from copyrates.juries import Jury
from copyrates.naturals import natural
from copyrates.notes import (
    Notes, lit_ends, mean_ends, perhaps, rules_around, size_ends, surely, win_ends
)
from copyrates.sandwich import strengths
from copyrates.shapes import line
from copyrates.wins import mean_last, win
from copyrates.worlds import World, web_of
from tests.kit import (
    BIG, NO_WHOLE, Checks, lots, pair, path_web, ring_takes, some_held, some_linked, stubborn, table, within
)
from tests.oddkit import NO_FRACTION, SHUT, SIX_SHUT, natural_row, odd_webs, say_row

RING = [[0, 1, 0], [0, 0, 1], [1, 0, 0]]
NONE = [[0] * 3] * 3
ONES = table(3, lambda i, j: 1)
PATH = [[0, 1, 0], [1, 0, 1], [0, 1, 0]]


def noted(web, seed, ties=2):
    """Notes in which a few ties have unlike low and high calls."""
    draw = random.Random(seed)
    low = table(web.size, lambda i, j: draw.choice((0, 0, 1, 2)) if web.takes[i][j] else 0)
    high = [list(row) for row in low]
    for i, j in draw.sample(web.ties(), min(ties, len(web.ties()))):
        high[i][j] += draw.randrange(1, 3)
    return Notes(web.takes, low, high)


def agreeing(notes):
    """All agreeing worlds."""
    cells = [(i, j) for i in range(notes.size) for j in range(notes.size) if notes.low[i][j] < notes.high[i][j]]
    for entries in product(*[range(notes.low[i][j], notes.high[i][j] + 1) for i, j in cells]):
        calls = [list(row) for row in notes.low]
        for (i, j), entry in zip(cells, entries):
            calls[i][j] = entry
        yield World(notes.takes, calls=calls)


def some_notes(sizes=(2, 3, 4)):
    found = [Notes(PATH, NONE, [[0, 1, 0], [0, 0, 0], [0, 0, 0]])]
    for size in sizes:
        for seed, web in enumerate(some_linked(size, 14, 121 * size, zeros=size - 1, calls=False)[:4]):
            found.extend([noted(web, seed), noted(web, seed + 9, ties=0)])
        order = [i for i in (2, 0, 3, 1) if i < size]
        found.append(noted(World(path_web(order, lambda i, j: 1 + (3 * i + j) % 4)), 5))
    return found


class Tables(Checks):
    def test_attributes(self):
        low, high = [[0, 1, 0], [0, 0, 0], [0, 0, 0]], [[0, 1, 0], [0, 0, 5], [BIG, 0, 0]]
        notes = Notes(RING, low, high)
        self.told((notes.takes, notes.low, notes.high))
        self.same((notes.size, notes.takes), (3, tuple(map(tuple, RING))))
        self.same((notes.low, notes.high), (tuple(map(tuple, low)), tuple(map(tuple, high))))
        self.same((notes.least().takes, notes.least().calls), (notes.takes, notes.low))
        self.same((notes.most().takes, notes.most().calls), (notes.takes, notes.high))
        self.assertIsInstance(notes.least(), World)
        low[0][1] = 9
        self.assertEqual(notes.low[0][1], 1)

    def test_refused(self):
        self.refused("BadTable", -1, Notes, None, None, None)
        self.refused("BadTable", -1, Notes, [[0] * 7] * 7, None, None)
        self.refused("BadTable", 1, Notes, [[0, 1], [1, 1]], None, None)
        for wrong, row in ((None, -1), (3, -1), ([[0, 0]], -1), ("000", -1), (((0, 0, 0),) * 4, -1),
                           ([[0, 1, 0], [0, 0], [0, 0, 0]], 1), ([[0, 0, 0], [0, 0, 0], [1, 0, 1]], 2),
                           ([[0, 1, 0], [1, 0, 0], None], 1), ([[0, True, 0], None, None], 0),
                           ([[0, -1, 0], None, None], 0)):
            self.refused("BadTable", row, Notes, RING, wrong, None)
            self.refused("BadTable", row, Notes, RING, NONE, wrong)
        # Low above high is told last, by the first such row.
        self.refused("BadTable", 1, Notes, RING, [[0, 1, 0], [0, 0, 2], [3, 0, 0]], [[0, 1, 0], [0, 0, 1], [1, 0, 0]])
        self.refused("BadTable", 2, Notes, RING, [[0, 1, 0], [0, 0, 2], [3, 0, 0]], [[0, 1, 0], [0, 0, 2], None])
        Notes(RING, RING, RING)

    def test_equal(self):
        notes = Notes(RING, NONE, RING)
        self.assertIs(notes == Notes(tuple(RING), NONE, RING), True)
        for other in (Notes(RING, RING, RING), Notes(RING, NONE, NONE), Notes(ONES, NONE, RING), Notes([[0, 1], [1, 0]],
                      [[0, 0], [0, 0]], [[0, 1], [0, 0]]), None, 3, RING, World(RING, calls=RING)):
            self.assertIs(notes == other, False)
            self.assertIs(notes != other, True)

    def test_settled(self):
        self.assertIs(Notes(RING, NONE, RING).settled, False)
        self.assertIs(Notes(RING, RING, RING).settled, True)
        self.assertIs(Notes(RING, NONE, NONE).settled, True)


class Agrees(Checks):
    def test_bounds(self):
        for notes in some_notes():
            worlds = list(agreeing(notes))
            for world in worlds + [notes.least(), notes.most()]:
                self.assertIs(notes.agrees(world), True)
                self.assertIs(world in notes, True)
            for i, j in notes.least().ties():
                for table_of, step in ((notes.low, -1), (notes.high, 1)):
                    calls = [list(row) for row in notes.low]
                    calls[i][j] = table_of[i][j] + step
                    if calls[i][j] >= 0:
                        self.assertIs(notes.agrees(World(notes.takes, calls=calls)), False)
                        self.assertIs(World(notes.takes, calls=calls) in notes, False)
                        self.assertIs(World(notes.takes, calls=calls) not in notes, True)

    def test_others(self):
        notes = Notes(RING, NONE, RING)
        for other in (None, 3, RING, "world", World([[0, 1], [1, 0]]), World(ONES), World(RING) * 2, notes, (RING, NONE)):
            self.assertIs(notes.agrees(other), False)
            self.assertIs(other in notes, False)


class Narrow(Checks):
    notes = Notes(PATH, [[0, 2, 0], [0, 0, 0], [0, 0, 0]], [[0, 7, 0], [0, 0, 4], [0, BIG, 0]])

    def test_narrow(self):
        made = self.notes.narrow([0, 1], 3, 6)
        self.assertIsInstance(made, Notes)
        self.same((made.takes, made.low[0][1], made.high[0][1]), (self.notes.takes, 3, 6))
        self.assertEqual(made, Notes(PATH, [[0, 3, 0], [0, 0, 0], [0, 0, 0]], [[0, 6, 0], [0, 0, 4], [0, BIG, 0]]))
        self.same((self.notes.low[0][1], self.notes.high[0][1]), (2, 7))
        for low, high in ((2, 7), (7, 7), (2, 2), (5, 5)):
            made = self.notes.narrow((0, 1), low, high)
            self.same((made.low[0][1], made.high[0][1]), (low, high))

    def test_seen(self):
        for number in (0, 1, BIG):
            made = self.notes.seen((2, 1), number)
            self.assertEqual(made, self.notes.narrow([2, 1], number, number))
        self.assertIs(self.notes.seen((0, 1), 2).seen((1, 2), 0).seen([2, 1], 9).settled, True)

    def test_refused(self):
        for tie in (None, 3, "01", (0,), (0, 1, 2), (0, 2), (1, 1), (0, 3), (-1, 0), (True, 2), [0, None], ((0, 1),)):
            self.refused("BadTie", tie, self.notes.narrow, tie, None, None)
            self.refused("BadTie", tie, self.notes.seen, tie, None)
        for low in NO_WHOLE + (1, 8, -1):
            self.refused("BadNumber", "low", self.notes.narrow, (0, 1), low, low)
        for high in NO_WHOLE + (3, 8, 0):
            self.refused("BadNumber", "high", self.notes.narrow, (0, 1), 4, high)
        for number in NO_WHOLE + (1, 8, -1):
            self.refused("BadNumber", "number", self.notes.seen, (0, 1), number)
        self.assertEqual((self.notes.low[0][1], self.notes.high[0][1]), (2, 7))


class Ends(Checks):
    def test_all_agreeing_worlds(self):
        draw = random.Random(122)
        strict = 0
        for notes in some_notes():
            worlds = list(agreeing(notes))
            settled = len(worlds) == 1
            self.assertIs(notes.settled, settled)
            for lot in lots(notes.size):
                wins = [Fraction(*win(world, lot)) for world in worlds]
                told = self.told(win_ends(notes, list(lot)))
                self.same(told, (pair(min(wins)), pair(max(wins))))
                if 0 < len(lot) < notes.size and not settled and line(worlds[0]) is None:
                    self.assertNotEqual(told[0], told[1])
                    strict += 1
                for chance in (min(wins), max(wins), (min(wins) + max(wins)) / 2, max(wins) + 1, Fraction(-1, 2)):
                    self.assertIs(surely(notes, lot, [3 * chance.numerator, 3 * chance.denominator]), min(wins) >= chance)
                    self.assertIs(perhaps(notes, lot[::-1], pair(chance)), max(wins) >= chance)
            for top in (3, 10 ** 12):
                grades = [draw.randrange(-top, top) for _ in range(notes.size)]
                means = [Fraction(*mean_last(world, grades)) for world in worlds]
                self.same(self.told(mean_ends(notes, grades)), (pair(min(means)), pair(max(means))))
            sizes = [Fraction(*Jury(world).mean_size) for world in worlds]
            self.same(self.told(size_ends(notes)), (pair(min(sizes)), pair(max(sizes))))
            self.assertIs(len(set(size_ends(notes))) == 1, settled)
        self.assertGreater(strict, 30)

    def test_held(self):
        draw = random.Random(7)
        for world in some_held(3, 6, 122) + some_held(4, 3, 123):
            notes = noted(web_of(world), draw.randrange(99))
            worlds = list(agreeing(notes))
            for holders in within(stubborn(world)):
                for lot in lots(world.size):
                    chances = [Fraction(*lit(other, lot, holders)) for other in worlds]
                    self.same(self.told(lit_ends(notes, lot, holders)), (pair(min(chances)), pair(max(chances))))

    def test_narrower(self):
        for notes in some_notes((3, 4)):
            for i, j in notes.least().ties():
                low, high = notes.low[i][j], notes.high[i][j]
                if low < high:
                    other = notes.narrow((i, j), low, high - 1).narrow((i, j), low, low)
                    for lot in lots(notes.size):
                        outer, inner = win_ends(notes, lot), win_ends(other, lot)
                        row = [Fraction(*worth) for worth in (outer[0], inner[0], inner[1], outer[1])]
                        self.assertEqual(row, sorted(row))

    def test_great(self):
        takes = table(5, lambda i, j: BIG - 6 * i - j)
        notes = Notes(takes, table(5, lambda i, j: i + j), table(5, lambda i, j: BIG))
        low, high = (Fraction(*worth) for worth in win_ends(notes, (0, 3)))
        self.assertLess(low, high)
        self.assertIs(surely(notes, (0, 3), pair(low)), True)
        self.assertIs(surely(notes, (0, 3), pair(low + Fraction(1, 10 ** 60))), False)
        self.assertIs(perhaps(notes, (0, 3), pair(high)), True)
        self.assertIs(perhaps(notes, (0, 3), pair(high + Fraction(1, 10 ** 60))), False)

    def test_world_first(self):
        six = Notes(ring_takes(6), [[0] * 6] * 6, ring_takes(6))
        shut = Notes(SHUT.takes, NONE, SHUT.calls)
        calls = (lambda notes: win_ends(notes, None), lambda notes: mean_ends(notes, None), size_ends,
                 lambda notes: surely(notes, None, None), lambda notes: perhaps(notes, None, None))
        for call in calls:
            self.refused("TooMany", 6, call, six)
            self.refused("TooMany", 6, call, Notes(SIX_SHUT.takes, SIX_SHUT.calls, SIX_SHUT.calls))
            self.refused("NotLinked", (1, 2), call, shut)
        self.refused("NotLinked", (1, 2), rules_around, shut)
        self.refused("NotLinked", (0,), rules_around, Notes(SIX_SHUT.takes, SIX_SHUT.calls, SIX_SHUT.calls))
        self.refused("TooMany", 6, lit_ends, six, None, None)
        self.refused("NotHeld", (1, 2), lit_ends, shut, None, None)
        self.refused("NotHeld", (), lit_ends, Notes(NONE, NONE, NONE), None, None)

    def test_arguments(self):
        notes = Notes(RING, NONE, RING)
        for lot, place in ((None, None), (1, None), ((0, 3), 3), ([1, 1], 1), ((True,), True)):
            self.refused("BadLot", place, win_ends, notes, lot)
            self.refused("BadLot", place, surely, notes, lot, None)
            self.refused("BadLot", place, perhaps, notes, lot, None)
        for chance in NO_FRACTION:
            self.refused("BadFraction", "chance", surely, notes, (0,), chance)
            self.refused("BadFraction", "chance", perhaps, notes, (0,), chance)
        for grades in (None, 3, "abc", (), [1, 2], (1, 2, 3, 4)):
            self.refused("BadGrades", -1, mean_ends, notes, grades)
        for entry in NO_WHOLE:
            self.refused("BadGrades", 1, mean_ends, notes, (1, entry, entry))
        held = Notes([[0, 1, 1], [0, 0, 0], [0, 0, 0]], NONE, [[0, 1, 0], [0, 0, 0], [0, 0, 0]])
        self.refused("BadLot", 3, lit_ends, held, (0, 3), None)
        self.refused("BadLot", None, lit_ends, held, (0,), None)
        self.refused("BadLot", 0, lit_ends, held, (0,), (1, 0))

    def test_arguments_stay(self):
        low, lot, grades = [list(row) for row in NONE], [2, 0], [3, 1, 2]
        notes = Notes(RING, low, RING)
        (win_ends(notes, lot), mean_ends(notes, grades), surely(notes, lot, [1, 2]))
        self.assertEqual((low, lot, grades), (NONE, [2, 0], [3, 1, 2]))


class RulesAround(Checks):
    def test_strengths(self):
        for notes in some_notes() + [Notes(web.takes, [[0] * web.size] * web.size, web.takes) for web in odd_webs((5, 6))]:
            wanted = (strengths(notes.least())[0], strengths(notes.most())[1])
            self.same(self.told(rules_around(notes)), wanted)

    def test_bounds(self):
        for notes in some_notes():
            low, high = (natural_row(notes.least(), Fraction(*q)) for q in rules_around(notes))
            for lot in lots(notes.size):
                ends = [Fraction(*worth) for worth in win_ends(notes, lot)]
                self.assertTrue(low[lot] <= ends[0] <= ends[1] <= high[lot])

    def test_greatest_says(self):
        for notes in some_notes((3, 4)):
            told = say_row(notes.least())
            low, high = (natural_row(notes.least(), Fraction(*q)) for q in rules_around(notes))
            for k in range(1, notes.size):
                best = tuple(sorted(sorted(range(notes.size), key=lambda i: -told[i])[:k]))
                for lot in lots(notes.size):
                    if len(lot) == k:
                        self.assertLessEqual(Fraction(*win_ends(notes, lot)[1]), high[best])
                self.assertGreaterEqual(Fraction(*win_ends(notes, best)[0]), low[best])

    def test_natural_ends(self):
        for web in odd_webs((2, 3, 4)):
            # Both worlds on one web: the takes and the calls of the two are told over one number.
            k = natural(web, 1)
            notes = Notes(k.takes, k.calls, [[3 * entry for entry in row] for row in k.calls])
            self.same(rules_around(notes), ((1, 1), (3, 1)))
            low, high = natural_row(web, Fraction(1)), natural_row(web, Fraction(3))
            for lot in lots(web.size):
                self.same(win_ends(notes, lot), (pair(low[lot]), pair(high[lot])))

    def test_steady(self):
        for web in odd_webs((2, 3)):
            zeros = [[0] * web.size] * web.size
            self.same(rules_around(Notes(web.takes, zeros, zeros)), ((0, 1), (0, 1)))


if __name__ == "__main__":
    unittest.main()
