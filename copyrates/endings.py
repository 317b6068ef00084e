"""The lots of stubborn places at which jury steps end, and what they tell of lasting grades."""

from copyrates.chains import exit_parts
from copyrates.doing import grades_of
from copyrates.errors import TooMany
from copyrates.helds import ask_held, free_mask, holder_mask, stubborn_mask
from copyrates.jurysteps import back_rates
from copyrates.masks import lot_in, mask_of, masks_within, some_mask
from copyrates.ratios import lowest
from copyrates.searching import least_rows


def end_parts(world, starts):
    """Return (whole, parts) for a held world: end(L, U) is parts[L][U] / whole.

    All lots are told by their numbers. L is one of the starts or a lot that jury steps come to from them;
    parts[L] is a dict of the lots U with a chance above 0. The lot () never changes: it ends at itself.
    """
    stubborn = stubborn_mask(world)
    reached = list(least_rows(starts, lambda mask: [(other, other) for other in back_rates(world, mask)]))
    moving = [mask for mask in reached if mask | stubborn != stubborn]
    rates = {mask: back_rates(world, mask) for mask in moving}
    ends = sorted([mask for mask in reached if mask | stubborn == stubborn])
    whole, tops = exit_parts(moving, ends, lambda mask: rates[mask])
    parts = {mask: {mask: whole} for mask in ends}
    for mask, row in zip(moving, tops):
        parts[mask] = {end: part for end, part in zip(ends, row) if part > 0}
    return (whole, parts)


def lit_part(ends, holders):
    """Return the sum of the parts of the lots that meet the holders."""
    return sum([part for mask, part in ends.items() if mask & holders != 0])


def end_chances(world, lot):
    """Return each lot U of stubborn places with the chance, above 0, that jury steps from the lot end at U."""
    ask_held(world)
    mask = some_mask(lot, world.size)
    whole, parts = end_parts(world, [mask])
    return tuple([(lot_in(end), lowest(part, whole)) for end, part in parts[mask].items()])


def lit(world, lot, holders):
    """Return the lasting chance that some place of the lot has grade 1 if the holders do."""
    ask_held(world)
    mask = mask_of(lot, world.size)
    lighted = holder_mask(world, holders)
    whole, parts = end_parts(world, [mask])
    return lowest(lit_part(parts[mask], lighted), whole)


def lasting_greatest(world, lot, grades):
    """Return each grade with the lasting chance, above 0, that it is the greatest over the lot, grades ascending."""
    ask_held(world)
    mask = some_mask(lot, world.size)
    told = grades_of(grades, world.size)
    whole, parts = end_parts(world, [mask])
    sums = {}
    for end, part in parts[mask].items():
        greatest = max([told[place] for place in lot_in(end)])
        sums[greatest] = sums.get(greatest, 0) + part
    return tuple([(grade, lowest(sums[grade], whole)) for grade in sorted(list(sums))])


def few_free(world):
    """Return the number of the lot of the free places of a held world, of which there may be three."""
    ask_held(world)
    mask = free_mask(world)
    if len(lot_in(mask)) > 3:
        raise TooMany(len(lot_in(mask)))
    return mask


def both_ways(world):
    """Return each lot of holders with the row of lit over all lots of free places."""
    lots = masks_within(few_free(world))
    whole, parts = end_parts(world, lots)
    return tuple([
        (lot_in(holders), tuple([lowest(lit_part(parts[mask], holders), whole) for mask in lots]))
        for holders in masks_within(stubborn_mask(world))
    ])
