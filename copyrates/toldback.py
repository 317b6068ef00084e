"""What win tells back of the calls, worlds with the same wins, and the chances far on in any world."""

from copyrates.doing import grades_of
from copyrates.endings import end_chances
from copyrates.errors import BadFraction, OtherSize
from copyrates.helds import headed
from copyrates.kinds import ask_at_most, ask_whole, is_row
from copyrates.linking import ask_linked, ask_small, heads
from copyrates.masks import high_mask, lot_in, mask_of, some_mask
from copyrates.ratios import added, fraction_of, less, lowest, over, times, total_of
from copyrates.wins import head_wins, win_row
from copyrates.worlds import World


def told_wins(row, size):
    """Return a row by lots of fractions, not worth 1 at the lots that lack one place, or raise BadFraction."""
    full = (1 << size) - 1
    if not is_row(row) or len(row) != full + 1:
        raise BadFraction("row")
    told = [fraction_of(entry, "row") for entry in row]
    if (1, 1) in [told[full - (1 << place)] for place in range(size)]:
        raise BadFraction("row")
    return told


def rate_sums(web, wins):
    """Return for each place the sum of its takes and calls that the row of wins tells."""
    full = (1 << web.size) - 1
    sums = []
    for i in range(web.size):
        lacking = full - (1 << i)
        parts = [
            times(web.takes[k][i], less(wins[lacking], wins[lacking - (1 << k)])) for k in range(web.size) if k != i
        ]
        sums.append(over(total_of(parts), less((1, 1), wins[lacking])))
    return sums


def told_sums(takes, row):
    """Return the web with these takes and the sums of the rates of its places, all arguments checked."""
    web = World(takes)
    ask_small(web)
    return (web, rate_sums(web, told_wins(row, web.size)))


def call_sums(takes, row):
    """Return for each place the sum of its calls that the takes and the row of wins tell."""
    web, sums = told_sums(takes, row)
    return tuple([less(whole, sum(own)) for whole, own in zip(sums, web.takes)])


def factors_told(takes, row):
    """Return for each place 1 + (sum of its calls) / (sum of its takes), told as by `call_sums`."""
    web, sums = told_sums(takes, row)
    return tuple([over(whole, sum(own)) for whole, own in zip(sums, web.takes)])


def same_wins(world, other):
    """Tell whether two linked worlds have the same row of win."""
    if other.size != world.size:
        raise OtherSize(other.size)
    ask_small(world)
    ask_linked(other)
    return win_row(world) == win_row(other)


def head_ends(world, places):
    """Return pairs (lot of heads by their indices, chance): where jury steps from the places end among the heads."""
    found = heads(world)
    spots = {place: at for at, head in enumerate(found) for place in head}
    if len([place for place in places if place not in spots]) == 0:
        return ((tuple(sorted(set([spots[place] for place in places]))), (1, 1)),)
    made, groups, others = headed(world)
    for at, place in enumerate(others):
        spots[place] = len(groups) + at
    return end_chances(made, sorted(set([spots[place] for place in places])))


def head_miss(world, head, high):
    """Return the chance that a head does not come to a grade of its places in the lot with the number `high`."""
    whole, parts = head_wins(world, head)
    return lowest(whole - parts[high & mask_of(head, world.size)], whole)


def far_chance(world, grades, lot, grade):
    """Return the chance to which it tends that some place of the lot has this grade or more."""
    ask_at_most(world, 5)
    told = grades_of(grades, world.size)
    places = lot_in(some_mask(lot, world.size))
    ask_whole(grade, "grade")
    high = high_mask(told, grade)
    misses = [head_miss(world, head, high) for head in heads(world)]
    missing = (0, 1)
    for ends, chance in head_ends(world, places):
        part = chance
        for at in ends:
            part = times(part, misses[at])
        missing = added(missing, part)
    return less((1, 1), missing)
