"""Slopes: what small calls do to the chance to win, for all starts at once."""

from copyrates.errors import BadPlace
from copyrates.kinds import ask_place, tie_of
from copyrates.linking import ask_small
from copyrates.masks import mask_of
from copyrates.pairwalks import pair_rows, pairs_across, unlike_pairs
from copyrates.ratios import lowest
from copyrates.sayrows import say_parts
from copyrates.solving import solved


def stay_parts(takes):
    """Return (whole, parts): walks begun at a pair have parts[pair][other pair] / whole of W0 visits to another one."""
    pairs = unlike_pairs(list(range(len(takes))))
    rows = pair_rows(takes)
    whole, tops = solved([row + [1 if k == at else 0 for k in range(len(rows))] for at, row in enumerate(rows)])
    return (whole, {pair: {other: part for other, part in zip(pairs, row)} for pair, row in zip(pairs, tops)})


class Slopes:
    """The slopes and parts of a linked world; they never change."""

    def __init__(self, world):
        ask_small(world)
        self.world = world
        self.size = world.size
        self._says, say_whole = say_parts(world)
        whole, self._stays = stay_parts(world.takes)
        self._whole = whole * say_whole
        self._parts = {
            pair: sum([self._says[i] * world.calls[i][j] * self._stays[(j, i)][pair] for i, j in world.calling()])
            for pair in unlike_pairs(list(range(world.size)))
        }
        self._table = tuple([self._across(self._parts, mask) for mask in range(1 << world.size)])

    def _across(self, parts, mask):
        """Return the sum of the parts of the pairs from the lot with this number to outside, as a fraction."""
        return lowest(sum([parts[pair] for pair in pairs_across(self.size, mask)]), self._whole)

    @property
    def table(self):
        """The slopes of all lots, in the order of their numbers."""
        return self._table

    def slope(self, lot):
        """Return the slope of the lot."""
        return self._table[mask_of(lot, self.size)]

    def part(self, p, u):
        """Return part(p,u) of two unlike places."""
        ask_place(p, self.size)
        ask_place(u, self.size)
        if p == u:
            raise BadPlace(p)
        return lowest(self._parts[(p, u)], self._whole)

    def of_tie(self, tie, lot):
        """Return the slope of the lot that a call of rate 1 on this tie alone has."""
        i, j = tie_of(self.world, tie)
        mask = mask_of(lot, self.size)
        stays = self._stays[(j, i)]
        return self._across({pair: self._says[i] * part for pair, part in stays.items()}, mask)

    def singles(self):
        """Return the slopes of the starts of one place."""
        return tuple([self._table[1 << place] for place in range(self.size)])
