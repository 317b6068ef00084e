"""Walks in held worlds without calls: where they end, where two of them first meet, and what follows."""

from copyrates.chains import exit_parts
from copyrates.doing import grades_of
from copyrates.helds import ask_held, free_mask, holder_mask, stubborn_mask
from copyrates.kinds import ask_place, ask_steady
from copyrates.linking import reaches
from copyrates.masks import lot_in, mask_of
from copyrates.pairwalks import pair_rates, unlike_pairs
from copyrates.ratios import added, less, lowest, times


def ask_walking(world):
    """Raise an error unless the world is held, not too great, and without calls."""
    ask_held(world)
    ask_steady(world)


def meet_chances(world):
    """Return for each pair of unlike free places a dict from k to the chance, above 0, that walks first meet there."""
    free = lot_in(free_mask(world))
    pairs = unlike_pairs(free)
    whole, tops = exit_parts(pairs, [(k, k) for k in free], lambda pair: pair_rates(world.takes, pair))
    return {
        pair: {k: lowest(part, whole) for k, part in zip(free, row) if part > 0} for pair, row in zip(pairs, tops)
    }


def meet_row(world, one, other):
    """Return a dict from each place k at which the walks from the two places can first meet, to the chance."""
    free = free_mask(world)
    if (free >> one) & (free >> other) & 1 == 0:
        return {}
    return {one: (1, 1)} if one == other else meet_chances(world)[(one, other)]


def first_meetings(world, one, other):
    """Return each free place k at which the walks from the two places can first meet, with its chance."""
    ask_walking(world)
    ask_place(one, world.size)
    ask_place(other, world.size)
    return tuple(list(meet_row(world, one, other).items()))


def sure_mask(world, holders):
    """Return the number of the lot of the places whose walks all end at holders, or none does."""
    stubborn = stubborn_mask(world)
    sure = 0
    for place in range(world.size):
        ends = mask_of(reaches(world, place), world.size) & stubborn
        if ends & holders in (0, ends):
            sure = sure | (1 << place)
    return sure


def sure_places(world, holders):
    """Return the lot of all places whose lasting grade is sure."""
    ask_walking(world)
    return lot_in(sure_mask(world, holder_mask(world, holders)))


def walk_means(world, numbers):
    """Return a dict from each free place to the mean of the number at which its walk ends."""
    free, ends = lot_in(free_mask(world)), lot_in(stubborn_mask(world))
    looks = {place: {at: take for at, take in enumerate(world.takes[place]) if take > 0} for place in free}
    whole, tops = exit_parts(free, ends, lambda place: looks[place])
    return {
        place: lowest(sum([part * numbers[end] for end, part in zip(ends, row)]), whole)
        for place, row in zip(free, tops)
    }


def walk_covariance(world, one, other, numbers):
    """Return the covariance of the lasting numbers of two places; the stubborn places hold the numbers."""
    means = walk_means(world, numbers)
    squares = walk_means(world, [number * number for number in numbers])
    total = (0, 1)
    for k, chance in meet_row(world, one, other).items():
        spread = less(squares[k], times(means[k], means[k]))
        total = added(total, times(chance, spread))
    return total


def covariance(world, one, other, holders):
    """Return the covariance of the lasting grades of two places at the holders."""
    ask_walking(world)
    ask_place(one, world.size)
    ask_place(other, world.size)
    mask = holder_mask(world, holders)
    return walk_covariance(world, one, other, [(mask >> place) & 1 for place in range(world.size)])


def number_covariance(world, one, other, numbers):
    """Return the covariance of the lasting numbers of two places."""
    ask_walking(world)
    ask_place(one, world.size)
    ask_place(other, world.size)
    return walk_covariance(world, one, other, grades_of(numbers, world.size))


def tied_pair(world, lot, holders):
    """Return None if the places of the lot are independent, otherwise two of them and where they are tied."""
    ask_walking(world)
    mask = mask_of(lot, world.size)
    sure = sure_mask(world, holder_mask(world, holders))
    chances = meet_chances(world)
    for one, other in unlike_pairs(lot_in(mask)):
        unsure = [k for k in chances.get((one, other), {}) if (sure >> k) & 1 == 0]
        # Two walks meet alike in either order, so the pair that is found first has one < other.
        if len(unsure) > 0:
            return (one, other, unsure[0])
    return None


def independent_lot(world, lot, holders):
    """Tell whether the lasting grades of the places of the lot are independent at the holders."""
    return tied_pair(world, lot, holders) is None
