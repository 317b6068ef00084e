"""The chance to win, and the last grades, of worlds with one head."""

from copyrates.chains import exit_parts
from copyrates.doing import grades_of
from copyrates.drawn import greatest_chances, mean_of
from copyrates.errors import ManyHeads
from copyrates.kinds import ask_at_most
from copyrates.linking import heads
from copyrates.masks import mask_of, masks_within
from copyrates.ratios import lowest
from copyrates.worlds import table_sum


def start_rates(ups, downs, places, mask):
    """Return a dict from each other start, that marks of the places turn this one into, to the sum of their rates.

    The starts are told by the numbers of their lots. A place copies a grade 1 at the rates in `ups`, a grade 0 at
    those in `downs`.
    """
    rates = {}
    for i in places:
        held = (mask >> i) & 1
        row = downs[i] if held == 1 else ups[i]
        for j, rate in enumerate(row):
            if rate > 0 and held != (mask >> j) & 1:
                rates[mask ^ (1 << i)] = rates.get(mask ^ (1 << i), 0) + rate
    return rates


def head_parts(ups, downs, head):
    """Return (whole, parts) for a head: it comes to grade 1 with the chance parts[mask] / whole.

    `mask` is the number of the lot of those of its places that begin with 1. A head looks at nobody else.
    """
    full = mask_of(head, len(ups))
    mixed = masks_within(full)[1:-1]
    whole, tops = exit_parts(mixed, [full], lambda mask: start_rates(ups, downs, head, mask))
    parts = {0: 0, full: whole}
    for mask, row in zip(mixed, tops):
        parts[mask] = row[0]
    return (whole, parts)


def head_wins(world, head):
    """Return (whole, parts) for a head of the world, as `head_parts` does."""
    # A call changes a grade 0 alone.
    return head_parts(table_sum(world.takes, world.calls), world.takes, head)


def win_parts(world):
    """Return (whole, parts) for a world with one head: win of the lot with the number k is parts[k] / whole."""
    ask_at_most(world, 5)
    found = heads(world)
    if len(found) > 1:
        raise ManyHeads(len(found))
    whole, parts = head_wins(world, found[0])
    full = mask_of(found[0], world.size)
    return (whole, [parts[mask & full] for mask in range(1 << world.size)])


def win(world, lot):
    """Return the chance that the last grade is 1 from the start of the lot."""
    whole, parts = win_parts(world)
    return lowest(parts[mask_of(lot, world.size)], whole)


def win_row(world):
    """Return win of all lots, in the order of their numbers."""
    whole, parts = win_parts(world)
    return tuple([lowest(part, whole) for part in parts])


def last_chances(world, grades):
    """Return each grade with the chance, above 0, that it is the last grade, grades ascending."""
    whole, parts = win_parts(world)
    return greatest_chances(whole, parts, grades_of(grades, world.size))


def mean_last(world, grades):
    """Return the mean of the last grade."""
    return mean_of(last_chances(world, grades))
