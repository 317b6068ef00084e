"""Rules: lots drawn with chances in proportion to the products of the odds of their places."""

from copyrates.doing import grades_of
from copyrates.drawn import greatest_chances, mean_of, meeting_row, share_mean, size_mean, sized_chance, some_chance
from copyrates.errors import BadOdds
from copyrates.kinds import ask_place, is_row
from copyrates.masks import mask_of
from copyrates.oddrows import odds_row, says_row
from copyrates.ratios import above_zero, lowest, times


def ask_many(value):
    """Raise BadOdds(-1) unless the value is a row with as many entries as a world can have places."""
    if not is_row(value) or not 2 <= len(value) <= 6:
        raise BadOdds(-1)


def odds_products(odds):
    """Return for each lot a whole number in proportion to the product of its odds, and 0 at ()."""
    parts = [1]
    for top, bottom in odds:
        # The lots with the further place have the numbers behind those of the lots without it.
        parts = [part * bottom for part in parts] + [part * top for part in parts]
    return [0] + parts[1:]


class Rule:
    """The rule of a row of odds; it never changes."""

    def __init__(self, odds):
        ask_many(odds)
        self.odds = odds_row(odds, len(odds))
        self.size = len(self.odds)
        self._tops = odds_products(self.odds)
        self._whole = sum(self._tops)
        self._meets = meeting_row(self._tops)

    def __call__(self, lot):
        return lowest(self._meets[mask_of(lot, self.size)], self._whole)

    def chance(self, lot):
        """Return the chance that the lot is drawn."""
        return some_chance(self._whole, self._tops, lot, self.size)

    def sized(self, number):
        """Return the chance that the drawn lot has just so many places."""
        return sized_chance(self._whole, self._tops, number, self.size)

    def mean_jury(self):
        """Return the mean number of places of the drawn lot."""
        return size_mean(self._whole, self._tops)

    def share(self, place):
        """Return the share of the place."""
        ask_place(place, self.size)
        return share_mean(self._whole, self._tops, place)

    def last_chances(self, grades):
        """Return each grade with the chance that it is the greatest over the drawn lot, grades ascending."""
        return greatest_chances(self._whole, self._meets, grades_of(grades, self.size))

    def mean(self, grades):
        """Return the mean of the greatest grade over the drawn lot."""
        return mean_of(self.last_chances(grades))

    def __eq__(self, other):
        return isinstance(other, Rule) and self.odds == other.odds


class NaturalRule(Rule):
    """The rule whose odds are the strength times the says."""

    def __init__(self, says, strength):
        ask_many(says)
        told = says_row(says, len(says))
        worth = above_zero(strength, "strength")
        super().__init__([times(worth, say) for say in told])
        self.says = told
        self.strength = worth
