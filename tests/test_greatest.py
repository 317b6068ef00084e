"""Sections 7 to 10: each function answers within a few seconds at the greatest worlds that it takes."""

import unittest
from time import perf_counter

from copyrates import (
    backwards, blockruns, byfactors, coming, countalone, farends, gains, gradecounts, independent, listing, naturals,
    notes, onefactor, sandwich, trials
)
from copyrates.desks import Desk
from copyrates.helds import held_world
from copyrates.wins import win_row
from copyrates.worlds import World
from tests.kit import BIG, Checks, path_web, table
from tests.oddkit import FAR


def great(size, calls=True):
    takes = table(size, lambda i, j: BIG - 7 * i - 3 * j * j)
    return World(takes, calls=table(size, lambda i, j: BIG - i - j if calls else 0))


FOUR, FIVE, SIX = great(4), great(5), great(6)
TREE = World(path_web([2, 0, 5, 3, 1, 4], lambda i, j: BIG - 5 * i - j))
NATURAL = naturals.natural(great(5), (10 ** 9, 10 ** 9 - 1))
ODDS = [(FAR - i, 3 + i) for i in range(6)]
NOTED = notes.Notes(FIVE.takes, [[0] * 5] * 5, FIVE.calls)
HELD = held_world(FIVE, (0, 3))
CALLS = (
    (naturals.natural, SIX, (FAR, 7)), (naturals.natural_rule, SIX, (FAR, 7)), (naturals.strength_of, SIX),
    (naturals.strength_of, NATURAL), (independent.odds_of, FIVE), (independent.odds_of, NATURAL),
    (independent.fits, SIX, ODDS), (independent.pair_gap, SIX, ODDS, 0, 5), (independent.place_gap, SIX, ODDS, 3),
    (byfactors.by_factors, SIX, ODDS), (byfactors.factors_of, SIX), (byfactors.factor_kind, TREE),
    (byfactors.factor_kind, onefactor.one_factor(TREE, (7, 3))), (byfactors.two_factors, TREE, (9, 10), FAR),
    (backwards.turned_web, SIX), (backwards.turned, NATURAL), (backwards.turned, SIX), (backwards.backwards_gap, FIVE),
    (backwards.backwards_gap, NATURAL), (sandwich.strengths, SIX), (sandwich.between, SIX, (0, 2, 4)),
    (sandwich.border, SIX, ODDS, (0, 2, 4)), (coming.needs, SIX, ODDS, (1, 5)), (coming.short_lot, SIX, ODDS),
    (coming.calls_for, SIX, ODDS), (coming.world_for, SIX, ODDS), (coming.calls_for, TREE, ODDS),
    (coming.least_counting, SIX), (countalone.number_factor, SIX), (countalone.counting_chance, (FAR, FAR - 1), 5, 6),
    (blockruns.uneven_starts, SIX, [(place,) for place in range(6)]), (blockruns.runs_alone, SIX, [(0, 1, 2, 3, 4, 5)]),
    (blockruns.flattened, SIX, [(place,) for place in range(6)]), (blockruns.rate_up, SIX, [(0, 1, 2, 3, 4, 5)], (1,), 0),
    (gradecounts.uneven_rows, SIX, [(place,) for place in range(6)]), (gradecounts.grades_alone, SIX, [(0, 1, 2, 3, 4, 5)]),
    (onefactor.one_factor, SIX, (FAR, 7)), (onefactor.factor_of, SIX), (onefactor.win_at, FIVE, (BIG, BIG - 1), (0, 3)),
    (onefactor.win_at, FIVE, (FAR - 1, FAR), (0, 3)), (onefactor.tipping, FOUR, (1, 2)), (onefactor.paces, TREE),
    (onefactor.paces, SIX), (onefactor.pace_odds, (FAR, 7), (FAR, 3), [(0, 1, 2), (3, 4, 5)]), (farends.strong_end, FIVE),
    (farends.weak_end, FIVE), (farends.verdict_near_one, FIVE), (notes.win_ends, NOTED, (0, 3)),
    (notes.mean_ends, NOTED, (5, 4, 3, 2, 1)), (notes.size_ends, NOTED), (notes.surely, NOTED, (0, 3), (1, 2)),
    (notes.perhaps, NOTED, (0, 3), (1, 2)), (notes.rules_around, notes.Notes(SIX.takes, SIX.calls, SIX.calls)),
    (notes.lit_ends, notes.Notes(HELD.takes, [[0] * 5] * 5, HELD.calls), (1, 2), (3,)),
    (gains.gain, great(5, False), FIVE, (0, 3)), (gains.visits_of, FIVE, (0, 3)), (gains.tie_worth, FIVE, (1, 2), (2,)),
    (gains.best_tie, FIVE, (0, 3)), (trials.step_mean, FIVE, (5, 4, 3, 2, 1), 3),
    (trials.tried, Desk(FIVE, [1, 2, 3, 4, 5]), [("call", (0, 1), BIG)] * 60, "last"), (listing.rows_text, win_row(FIVE)),
    (listing.world_from, listing.world_text(SIX), 6),
)


class Greatest(Checks):
    def test_times(self):
        for call, *arguments in CALLS:
            since = perf_counter()
            call(*arguments)
            self.assertLess(perf_counter() - since, 4, f"{call.__module__}.{call.__name__}")


if __name__ == "__main__":
    unittest.main()
