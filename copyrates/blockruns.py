"""Blocks of places, and counts in blocks that run by themselves."""

from copyrates.errors import BadBlocks
from copyrates.kinds import ask_number, is_between, is_row
from copyrates.masks import lot_in, mask_of
from copyrates.worlds import World


def is_block(value, size):
    """Tell whether the value is a tuple or list of places, one at least."""
    if not is_row(value) or len(value) == 0:
        return False
    return len([entry for entry in value if not is_between(entry, 0, size - 1)]) == 0


def check_blocks(blocks, size):
    """Return the blocks as a tuple of lots, or raise BadBlocks."""
    ask_number(size, "size", 2, 6)
    if not is_row(blocks) or len([value for value in blocks if not is_block(value, size)]) > 0:
        raise BadBlocks(-1)
    standing = [place for value in blocks for place in value]
    for place in range(size):
        if standing.count(place) != 1:
            raise BadBlocks(place)
    return tuple([tuple(sorted(value)) for value in blocks])


def counts_in(told, mask):
    """Return for each block the number of its places in the lot with this number."""
    return tuple([len([place for place in block if (mask >> place) & 1 == 1]) for block in told])


def block_counts(blocks, lot, size):
    """Return the counts of the lot."""
    told = check_blocks(blocks, size)
    return counts_in(told, mask_of(lot, size))


def up_rate(world, block, mask):
    """Return the rate up of the block, a lot, at the start with this number."""
    inside = lot_in(mask)
    return sum([world.takes[i][j] + world.calls[i][j] for i in block if (mask >> i) & 1 == 0 for j in inside])


def down_rate(world, block, mask):
    """Return the rate down of the block, a lot, at the start with this number."""
    outside = [place for place in range(world.size) if (mask >> place) & 1 == 0]
    return sum([world.takes[i][j] for i in block if (mask >> i) & 1 == 1 for j in outside])


def asked_block(world, blocks, lot, number):
    """Return the block with this index and the number of the lot, all arguments checked."""
    told = check_blocks(blocks, world.size)
    mask = mask_of(lot, world.size)
    ask_number(number, "number", 0, len(told) - 1)
    return (told[number], mask)


def rate_up(world, blocks, lot, number):
    """Return the rate up of the block with this index at the start of the lot."""
    block, mask = asked_block(world, blocks, lot, number)
    return up_rate(world, block, mask)


def rate_down(world, blocks, lot, number):
    """Return the rate down of the block with this index at the start of the lot."""
    block, mask = asked_block(world, blocks, lot, number)
    return down_rate(world, block, mask)


def unlike_rate(rates, others):
    """Return (number, word) of the first block whose rate up or down differs in two rows of such pairs, or None."""
    for number, pair in enumerate(rates):
        for at, word in ((0, "up"), (1, "down")):
            if pair[at] != others[number][at]:
                return (number, word)
    return None


def uneven_starts(world, blocks):
    """Return None if the counts run by themselves, otherwise two starts at which they do not, and where."""
    told = check_blocks(blocks, world.size)
    first = {}
    for mask in range(1 << world.size):
        counts = counts_in(told, mask)
        rates = [(up_rate(world, block, mask), down_rate(world, block, mask)) for block in told]
        other, others = first.setdefault(counts, (mask, rates))
        found = unlike_rate(rates, others)
        if found is not None:
            return (lot_in(other), lot_in(mask)) + found
    return None


def runs_alone(world, blocks):
    """Tell whether the counts run by themselves."""
    return uneven_starts(world, blocks) is None


def flat_table(table, spots):
    """Return the table with all entries doubled, where those inside a block are as great as their turned entries.

    `spots` has the index of the block of each place.
    """
    rows = []
    for i, row in enumerate(table):
        turned = [table[j][i] if spots[i] == spots[j] else entry for j, entry in enumerate(row)]
        rows.append([entry + other for entry, other in zip(row, turned)])
    return rows


def flattened(world, blocks):
    """Return the flattened world with all rates doubled, or None if the counts do not run by themselves."""
    told = check_blocks(blocks, world.size)
    if not runs_alone(world, told):
        return None
    spots = {place: number for number, block in enumerate(told) for place in block}
    return World(flat_table(world.takes, spots), calls=flat_table(world.calls, spots))
