"""The mean worths of all turns of a run from a start."""

from copyrates.kinds import ask_steady
from copyrates.linking import ask_linked, ask_small
from copyrates.masks import lot_in, mask_of
from copyrates.ratios import lowest
from copyrates.sayrows import say_parts
from copyrates.solving import solved


def turns(world, lot):
    """Return (up, down) of the lot, as the says tell them."""
    ask_linked(world)
    ask_steady(world)
    places = lot_in(mask_of(lot, world.size))
    parts, whole = say_parts(world)
    inside = sum([parts[place] for place in places])
    inside_squares = sum([parts[place] * parts[place] for place in places])
    all_squares = sum([part * part for part in parts])
    # All terms are told over the cube of the whole.
    both = inside * (whole - inside) * whole
    gap = inside * all_squares - inside_squares * whole
    bottom = 2 * whole * whole * whole
    return (lowest(both + gap, bottom), lowest(both - gap, bottom))


def turn_row(world, parts, mask):
    """Return the equation of a mixed start: what its next turns give, as a row for `solved`.

    The unknowns are the worths of all turns from each mixed start, in the order of their numbers.
    Of what leaves a start not more goes to other mixed ones, and in the end all leaves them;
    so all determinants that `solved` goes through are above 0.
    """
    many = (1 << world.size) - 2
    row = [0] * (many + 2)
    for i, j in world.ties():
        held, copied = (mask >> i) & 1, (mask >> j) & 1
        if held != copied:
            take = world.takes[i][j]
            reached = mask ^ (1 << i)
            row[mask - 1] += take
            if 0 < reached <= many:
                row[reached - 1] -= take
            row[many + 1 - copied] += take * parts[i] * parts[i]
    return row


def turns_by_run(world, lot):
    """Return (up, down) of the lot, from the equations between a start and its next ones."""
    ask_small(world)
    ask_steady(world)
    mask = mask_of(lot, world.size)
    if mask == 0 or mask == (1 << world.size) - 1:
        return ((0, 1), (0, 1))
    parts, whole = say_parts(world)
    bottom, tops = solved([turn_row(world, parts, number) for number in range(1, (1 << world.size) - 1)])
    up, down = tops[mask - 1]
    return (lowest(up, bottom * whole * whole), lowest(down, bottom * whole * whole))
