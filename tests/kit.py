"""What the tests share: refusals, kinds of values, worlds to try, and plain oracles."""

import random
import unittest
from fractions import Fraction
from itertools import product

from copyrates import errors
from copyrates.worlds import World

ATTRIBUTES = {
    "BadNumber": "name", "BadFraction": "name", "Fixed": "name", "BadPlace": "place", "BadTie": "tie",
    "BadLot": "place", "BadTable": "row", "BadGrades": "at", "BadMark": "at", "BadBlocks": "place",
    "BadOdds": "place", "NotLinked": "lot", "NotHeld": "lot", "HasCalls": "tie", "ManyHeads": "number",
    "TooMany": "number", "OtherSize": "size",
}

BIG = 10 ** 15
NO_WHOLE = (True, False, None, "1", 1.0, (1,), [0])


class Checks(unittest.TestCase):
    def refused(self, name, value, call, *args, **named):
        """The call raises the error of this name, whose one attribute is just this value."""
        with self.assertRaises(errors.RatesError) as caught:
            call(*args, **named)
        found = caught.exception
        self.assertEqual(type(found).__name__, name)
        self.assertIs(type(found), getattr(errors, name))
        self.assertEqual(repr(vars(found)), repr({ATTRIBUTES[name]: value}))

    def told(self, value):
        """The value has no lists: it is a tuple through and through, or a plain value."""
        if type(value) is tuple:
            for part in value:
                self.told(part)
        else:
            self.assertIn(type(value), (int, str, bool, type(None)))
        return value

    def same(self, value, wanted):
        """The value is the wanted one, in its kinds, too."""
        self.assertEqual(repr(value), repr(wanted))

    def fraction(self, value):
        """The value is a fraction in lowest terms; returns it as a Fraction."""
        self.told(value)
        self.assertEqual(len(value), 2)
        self.assertGreaterEqual(value[1], 1)
        worth = Fraction(*value)
        self.assertEqual(value, (worth.numerator, worth.denominator))
        return worth


def pair(worth):
    worth = Fraction(worth)
    return (worth.numerator, worth.denominator)


def lots(size):
    return [tuple(i for i in range(size) if number >> i & 1) for number in range(1 << size)]


def number_of_places(lot):
    return sum(1 << place for place in lot)


def webs(size):
    """All webs of this size with takes 0 and 1."""
    cells = [(i, j) for i in range(size) for j in range(size) if i != j]
    for entries in product((0, 1), repeat=len(cells)):
        rows = [[0] * size for _ in range(size)]
        for (i, j), entry in zip(cells, entries):
            rows[i][j] = entry
        yield World(rows)


def table(size, entry):
    return [[0 if i == j else entry(i, j) for j in range(size)] for i in range(size)]


def some_worlds(size, many, seed, zeros=2, top=4, calls=True):
    """Worlds with drawn rates; the greater `zeros` is, the fewer ties they have."""
    draw = random.Random(seed)
    for _ in range(many):
        takes = table(size, lambda i, j: max(0, draw.randrange(-zeros, top) + 1))
        rows = None
        if calls:
            rows = table(size, lambda i, j: draw.choice((0, 0, 1, 2, 3)) if takes[i][j] else 0)
        yield World(takes, calls=rows)


def reach_of(takes, start):
    seen, new = {start}, [start]
    while new:
        place = new.pop()
        for other, take in enumerate(takes[place]):
            if take > 0 and other not in seen:
                seen.add(other)
                new.append(other)
    return tuple(sorted(seen))


def linked(world):
    return all(len(reach_of(world.takes, i)) == world.size for i in range(world.size))


def some_linked(size, many, seed, zeros=2, top=4, calls=True):
    return [world for world in some_worlds(size, many, seed, zeros, top, calls) if linked(world)]


def path_web(order, entry=lambda i, j: 1):
    """The web in which just neighbours in the order look at each other."""
    beside = {(order[k], order[k + 1]) for k in range(len(order) - 1)}
    return table(len(order), lambda i, j: entry(i, j) if (i, j) in beside or (j, i) in beside else 0)


def ring_takes(size):
    return table(size, lambda i, j: 1 if j == (i + 1) % size else 0)


def own(world):
    found = []
    for i in range(world.size):
        for j in range(world.size):
            found.extend([(i, j, "take")] * (world.takes[i][j] > 0))
            found.extend([(i, j, "call")] * (world.calls[i][j] > 0))
    return found


def rate(world, mark):
    i, j, word = mark
    return (world.takes if word == "take" else world.calls)[i][j]


def do(grades, marks):
    grades = list(grades)
    for i, j, word in marks:
        grades[i] = grades[j] if word == "take" else max(grades[i], grades[j])
    return tuple(grades)


def start(lot, size):
    return tuple(1 if i in lot else 0 for i in range(size))


def stepped(lot, marks):
    lot = set(lot)
    for i, j, word in reversed(marks):
        if i in lot:
            if word == "take":
                lot.remove(i)
            lot.add(j)
    return tuple(sorted(lot))


def some_marks(size, many, seed):
    draw = random.Random(seed)
    marks = []
    for _ in range(many):
        i = draw.randrange(size)
        j = draw.choice([j for j in range(size) if j != i])
        marks.append((i, j, draw.choice(("take", "call"))))
    return marks


def solve(rows):
    """The one solution of linear equations; behind the numbers of each row stands its right side."""
    rows = [[Fraction(entry) for entry in row] for row in rows]
    for at in range(len(rows)):
        pivot = next(k for k in range(at, len(rows)) if rows[k][at] != 0)
        rows[at], rows[pivot] = rows[pivot], rows[at]
        rows[at] = [entry / rows[at][at] for entry in rows[at]]
        for k, row in enumerate(rows):
            if k != at and row[at] != 0:
                rows[k] = [a - row[at] * b for a, b in zip(row, rows[at])]
    return [row[-1] for row in rows]


def fractions(row):
    return [Fraction(*entry) for entry in row]


def rest(lot, size):
    return tuple(i for i in range(size) if i not in lot)


def held_takes(takes, lot):
    return [[0] * len(row) if at in lot else list(row) for at, row in enumerate(takes)]


def some_held(size, many, seed, calls=True):
    """Worlds in which the places of a drawn lot are stubborn, and from each other place a way leads to one of them."""
    draw = random.Random(seed)
    found = []
    while len(found) < many:
        lot = draw.sample(range(size), draw.randrange(1, size))
        world = next(some_worlds(size, 1, draw.randrange(10 ** 6), zeros=size - 1, calls=calls))
        world = World(held_takes(world.takes, lot), calls=held_takes(world.calls, lot))
        if all(set(reach_of(world.takes, i)) & set(lot) for i in range(size)):
            found.append(world)
    return found


def stubborn(world):
    return tuple(i for i in range(world.size) if sum(world.takes[i]) == 0)


def start_moves(world, lot):
    """What the own marks turn the start into, each other start with its rate."""
    found = {}
    for mark in own(world):
        after = do(start(lot, world.size), [mark])
        reached = tuple(i for i in range(world.size) if after[i])
        if reached != tuple(lot):
            found[reached] = found.get(reached, 0) + rate(world, mark)
    return found


def back_moves(world, lot):
    """What the own marks step the lot back to, each other lot with its rate."""
    found = {}
    for mark in own(world):
        reached = stepped(lot, [mark])
        if reached != tuple(lot):
            found[reached] = found.get(reached, 0) + rate(world, mark)
    return found


def equal_up_to_factor(one, other):
    """Whether all rates of the one world are those of the other one times one number."""
    rates = [sum(world.takes, ()) + sum(world.calls, ()) for world in (one, other)]
    factor = Fraction(sum(rates[0]), sum(rates[1]))
    return all(a == factor * b for a, b in zip(*rates))


def wins_by_run(world):
    """win of all lots in a world with one head, as Fractions, by equations between each start and its next ones."""
    every = lots(world.size)
    mixed = every[1:-1]
    rows = []
    for lot in mixed:
        row = [0] * (len(mixed) + 1)
        for reached, rate in start_moves(world, lot).items():
            row[mixed.index(lot)] += rate
            if reached in mixed:
                row[mixed.index(reached)] -= rate
            elif reached:
                row[-1] += rate
        rows.append(row)
    return dict(zip(every, [Fraction(0)] + solve(rows) + [Fraction(1)]))


def head_lots(world):
    """The closed lots that contain no smaller closed lot."""
    closed = [
        lot for lot in lots(world.size)[1:]
        if not any(world.takes[i][j] for i in lot for j in rest(lot, world.size))
    ]
    return [lot for lot in closed if not any(set(other) < set(lot) for other in closed)]


def some_one_head(size, many, seed, calls=True):
    """Worlds with one head, most of them not linked."""
    found = []
    while len(found) < many:
        seed += 1
        found.extend([
            world for world in some_worlds(size, 1, seed, zeros=size, calls=calls)
            if len(head_lots(world)) == 1 and (seed % 4 == 0 or not linked(world))
        ])
    return found


def within(lot):
    """All lots of places of the lot, in the order of their numbers."""
    return [tuple(p for at, p in enumerate(lot) if number >> at & 1) for number in range(1 << len(lot))]


def union(*parts):
    return tuple(sorted(set().union(*parts)))


def difference_of(f, base, extra):
    """The difference of a function of lots at the one lot by the other."""
    return sum((-1) ** (len(part) + 1) * f(union(base, part)) for part in within(extra))


def crossing(one, other):
    """Whether neither lot holds the other."""
    return not set(one) <= set(other) and not set(other) <= set(one)


def grade_sums(world, rows, gain):
    """For each of the rows of grades that are not all equal, the mean sum of the gains over the run from it.

    The rows are all that can follow one another; gain(mark, row, after) is what a mark that changes a row brings.
    """
    rows = [row for row in rows if len(set(row)) > 1]
    spots = {row: at for at, row in enumerate(rows)}
    lines = []
    for row in rows:
        told = [0] * (len(rows) + 1)
        for mark in own(world):
            after = do(row, [mark])
            if after != row:
                told[spots[row]] += rate(world, mark)
                told[-1] += rate(world, mark) * gain(mark, row, after)
                if after in spots:
                    told[spots[after]] -= rate(world, mark)
        lines.append(told)
    return dict(zip(rows, solve(lines)))
