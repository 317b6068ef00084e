"""Jury steps, and the jury of a world with one head: lots drawn with the chances to which these steps tend."""

from copyrates.differences import difference_row
from copyrates.doing import grades_of
from copyrates.drawn import greatest_chances, share_mean, size_mean, sized_chance, some_chance
from copyrates.jurysteps import back_rates
from copyrates.kinds import ask_place
from copyrates.masks import lot_in, mask_of, some_mask
from copyrates.ratios import lowest
from copyrates.wins import win_parts


def jury_steps(world, lot):
    """Return each other lot to which a mark steps the lot back, with the sum of the rates of such marks."""
    rates = back_rates(world, some_mask(lot, world.size))
    return tuple([(lot_in(reached), rates[reached]) for reached in sorted(list(rates))])


class Jury:
    """The jury of a world with one head: a lot drawn with the chances nu. It never changes."""

    def __init__(self, world):
        self._whole, self._wins = win_parts(world)
        self._tops = difference_row(self._wins)
        self.world = world
        self.size = world.size
        self._pairs = tuple([
            (lot_in(mask), lowest(part, self._whole)) for mask, part in enumerate(self._tops) if part > 0
        ])

    @property
    def chances(self):
        """The chances of all lots, in the order of their numbers."""
        return tuple([lowest(part, self._whole) for part in self._tops])

    @property
    def mean_size(self):
        """The mean number of places of a drawn jury."""
        return size_mean(self._whole, self._tops)

    def chance(self, lot):
        """Return the chance that the lot is drawn."""
        return some_chance(self._whole, self._tops, lot, self.size)

    def meets(self, lot):
        """Return the chance that a drawn jury has some place of the lot."""
        return lowest(self._wins[mask_of(lot, self.size)], self._whole)

    def misses(self, lot):
        """Return the chance that a drawn jury has no place of the lot."""
        return lowest(self._whole - self._wins[mask_of(lot, self.size)], self._whole)

    def holds(self, lot):
        """Return the chance that a drawn jury has all places of the lot."""
        mask = mask_of(lot, self.size)
        return lowest(sum([part for other, part in enumerate(self._tops) if other & mask == mask]), self._whole)

    def sized(self, number):
        """Return the chance that a drawn jury has just so many places."""
        return sized_chance(self._whole, self._tops, number, self.size)

    def share(self, place):
        """Return the share of the place."""
        ask_place(place, self.size)
        return share_mean(self._whole, self._tops, place)

    def __call__(self, grades):
        return greatest_chances(self._whole, self._wins, grades_of(grades, self.size))

    def __iter__(self):
        return iter(self._pairs)
