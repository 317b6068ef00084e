"""The lasting chances of lots of free places."""

from copyrates.differences import difference_at
from copyrates.endings import end_parts, few_free, lit, lit_part
from copyrates.helds import holder_mask
from copyrates.masks import lot_in, masks_within
from copyrates.ratios import less, lowest


def lasting_lots(world, holders):
    """Return each lot X of free places with the chance, above 0, that lastingly just its places have 1."""
    free = few_free(world)
    lighted = holder_mask(world, holders)
    lots = masks_within(free)
    whole, parts = end_parts(world, lots)
    lit_row = {mask: lit_part(parts[mask], lighted) for mask in lots}
    worths = {mask: difference_at(lit_row, free - mask, mask) for mask in lots}
    # At () the difference is that of all free places lit; the chance is the rest.
    worths[0] = whole + worths[0]
    return tuple([(lot_in(mask), lowest(worths[mask], whole)) for mask in lots if worths[mask] > 0])


def all_zero(world, lot, holders):
    """Return the lasting chance that all places of the lot have 0."""
    return less((1, 1), lit(world, lot, holders))
