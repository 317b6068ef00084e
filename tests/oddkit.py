"""What the tests of Sections 7 to 9 share: exact worlds, says, rules and juries worked out apart from the program."""

import random
from fractions import Fraction
from math import lcm, prod

from copyrates.worlds import World
from tests.kit import (
    BIG, difference_of, lots, path_web, rest, ring_takes, solve, some_linked, table, union, wins_by_run
)

FAR = 10 ** 99
NO_FRACTION = (True, None, "1", 1.5, (1,), (1, 0), (1, -1), (1, 2, 3), [1, True], (0.5, 1), {0: 1, 1: 1})
SHUT = World([[0, 1, 0], [0, 0, 1], [0, 1, 0]], calls=[[0, 1, 0], [0, 0, 0], [0, 0, 0]])
SIX_SHUT = World([[0] * 6] * 6)


def exact_world(takes, calls=None):
    """The world with these exact rates, whole numbers or Fractions, times the least number that makes all whole."""
    calls = [[0] * len(takes)] * len(takes) if calls is None else calls
    common = lcm(*[Fraction(entry).denominator for row in list(takes) + list(calls) for entry in row])
    rows = [[[int(entry * common) for entry in row] for row in part] for part in (takes, calls)]
    return World(rows[0], calls=rows[1])


def worths(row):
    """A row of fractions in any terms, as Fractions."""
    return [Fraction(*entry) if isinstance(entry, (tuple, list)) else Fraction(entry) for entry in row]


def say_row(world):
    """The says, as Fractions."""
    size, t = world.size, world.takes
    rows = [[t[i][j] - (sum(t[j]) if i == j else 0) for i in range(size)] + [0] for j in range(size - 1)]
    return solve(rows + [[1] * (size + 1)])


def flow_rows(world):
    """The flow, as Fractions."""
    return [[say * take for take in row] for say, row in zip(say_row(world), world.takes)]


def rule_row(odds):
    """For each lot, the chance that the lot which the rule of the odds draws meets it, as Fractions."""
    missed = {lot: prod((1 / (1 + odds[i]) for i in lot), start=Fraction(1)) for lot in lots(len(odds))}
    every = tuple(range(len(odds)))
    return {lot: (1 - part) / (1 - missed[every]) for lot, part in missed.items()}


def natural_row(world, strength):
    """For each lot, the natural rule of the strength, as Fractions; that of 0 is the sum of the says."""
    told = say_row(world)
    if strength == 0:
        return {lot: sum((told[i] for i in lot), start=Fraction(0)) for lot in lots(world.size)}
    return rule_row([strength * say for say in told])


def nu_row(world):
    """For each lot but () the chance that it is drawn as the jury, as Fractions."""
    row = wins_by_run(world)
    return {lot: difference_of(lambda part: row[part], rest(lot, world.size), lot) for lot in lots(world.size)[1:]}


def odds_by_jury(world):
    """The odds by which the jury is drawn, worked out from the chances of all lots, or None."""
    nu = nu_row(world)
    if world.steady:
        return None
    odds = [nu[union((i,), (j,))] / nu[(j,)] for i, j in enumerate([1] + [0] * (world.size - 1))]
    weights = {lot: prod((odds[i] for i in lot), start=Fraction(1)) for lot in nu}
    whole = sum(weights.values())
    return odds if all(nu[lot] == weight / whole for lot, weight in weights.items()) else None


def natural_world(world, strength):
    """The natural world of the strength on the web."""
    return exact_world(world.takes, [[strength * entry for entry in row] for row in flow_rows(world)])


def two_way_webs(size, many, seed):
    """Linked webs in which the turned pair of each tie is a tie."""
    draw = random.Random(seed)
    found = []
    while len(found) < many:
        web = next(iter(some_linked(size, 9, draw.randrange(10 ** 6), zeros=size - 2, calls=False)), None)
        if web:
            found.append(World(table(size, lambda i, j: web.takes[i][j] or min(1, web.takes[j][i]) * (1 + (i + j) % 3))))
    return found


def fair_web(size, ties, seed):
    """A fair web with these ties, in both directions."""
    draw = random.Random(seed)
    weights = [draw.choice((1, 2, 3, 6)) for _ in range(size)]
    shared = {tie: draw.randrange(1, 4) for tie in ties}
    return exact_world(table(
        size, lambda i, j: Fraction(6 * (shared.get((i, j), 0) or shared.get((j, i), 0)), weights[i])
    ))


SIDED = (
    (2, [(0, 1)]), (3, [(0, 1), (0, 2)]), (3, [(0, 1), (1, 2)]), (4, [(0, 1), (1, 2), (2, 3), (3, 0)]),
    (4, [(0, 2), (0, 3), (1, 2)]), (4, [(1, 0), (1, 2), (1, 3)]), (5, [(0, 3), (0, 4), (1, 3), (1, 4), (2, 3)]),
    (5, [(0, 1), (1, 2), (2, 3), (3, 4)]),
)


def sided_webs(sizes=(2, 3, 4, 5)):
    """Two-sided fair webs."""
    return [fair_web(size, ties, seed) for seed, (size, ties) in enumerate(SIDED) if size in sizes]


def odd_webs(sizes=(2, 3, 4, 5, 6)):
    """Linked webs of many kinds: drawn ones, rings in one direction, lines, fair ones, complete ones with great takes."""
    found = []
    for size in sizes:
        found.extend(some_linked(size, 14, 17 * size, zeros=size - 1, calls=False)[:4])
        found.append(World(ring_takes(size)))
        found.append(World(table(size, lambda i, j: BIG - 6 * i - j)))
        order = [2, 0, 3, 1, 5, 4]
        found.append(World(path_web([i for i in order if i < size], lambda i, j: 1 + (3 * i + j) % 4)))
        found.extend(two_way_webs(size, 1, 19 * size))
    found.append(World([[0, BIG], [1, 0]]))
    return [web for web in found if web.size in sizes] + [web for web in sided_webs() if web.size in sizes]


def calling_worlds(sizes=(2, 3, 4)):
    """Linked worlds of many kinds, most of them with calls."""
    found = []
    for size in sizes:
        found.extend(some_linked(size, 14, 23 * size, zeros=size - 1)[:5])
        found.extend(some_linked(size, 9, 31 * size, zeros=size - 1, calls=False)[:1])
        found.append(World(ring_takes(size), calls=table(size, lambda i, j: 5 if (i, j) == (size - 1, 0) else 0)))
        order = [i for i in (2, 0, 3, 1, 4) if i < size]
        web = path_web(order, lambda i, j: 1 + (3 * i + j) % 4)
        found.append(World(web, calls=table(size, lambda i, j: 2 if (i, j) == (order[0], order[1]) else 0)))
        for strength in (1, Fraction(5, 3)):
            found.extend(natural_world(web, strength) for web in odd_webs((size,))[:2])
        found.append(World(table(size, lambda i, j: BIG - 6 * i - j), calls=table(size, lambda i, j: BIG if i < j else 1)))
    return found


def some_odds(size, seed, top=9):
    draw = random.Random(seed)
    return [Fraction(draw.randrange(1, top), draw.randrange(1, top)) for _ in range(size)]


def terms(worth, k=1):
    """A Fraction in other terms, as a list."""
    return [worth.numerator * k, worth.denominator * k]
