"""Webs with one factor for all ties: the calls are (r - 1) times the takes."""

from copyrates.blockruns import check_blocks
from copyrates.byfactors import one_ratio, scaled_calls
from copyrates.errors import BadBlocks, BadFraction, BadLot
from copyrates.kinds import ask_at_most, ask_number, is_between, is_row
from copyrates.linking import ask_linked, ask_small
from copyrates.masks import mask_of
from copyrates.ratios import above_zero, added, from_one, less, lowest, over, times
from copyrates.shapes import is_two_way, sides
from copyrates.wholes import exact_table, whole_world
from copyrates.wins import head_parts
from copyrates.worlds import table_times


def one_factor(world, factor):
    """Return the world with one factor on the web."""
    told = from_one(factor, "factor")
    return whole_world(exact_table(world.takes), scaled_calls(world.takes, [told] * world.size))


def factor_of(world):
    """Return the one factor of the world, or None."""
    takes = [take for row in world.takes for take in row]
    return one_ratio(takes, [call for row in world.calls for call in row])


def factor_wins(takes, top, bottom):
    """Return (whole, parts): win_r of the lot with the number k is parts[k] / whole, r being top / bottom.

    It tells win_r for r below 1, too: if all rates are divided by r, grades 0 are copied by the factor 1 / r.
    """
    return head_parts(table_times(takes, top), table_times(takes, bottom), tuple(range(len(takes))))


def win_at(world, factor, lot):
    """Return win_r of the lot, r being the factor."""
    ask_small(world)
    top, bottom = above_zero(factor, "factor")
    mask = mask_of(lot, world.size)
    whole, parts = factor_wins(world.takes, top, bottom)
    return lowest(parts[mask], whole)


def forward_steps(values):
    """Return the first one of the values, of their differences, of the differences of these, and so on."""
    found = []
    row = list(values)
    while len(row) > 0:
        found.append(row[0])
        row = [behind - ahead for ahead, behind in zip(row, row[1:])]
    return found


def worth_at(steps, top, bottom):
    """Return a number with the sign of a polynomial at top / bottom, by the `forward_steps` of it at 0, 1, 2, .. ."""
    worth, scale = 0, 1
    for k in reversed(range(len(steps))):
        further = scale * bottom * (k + 1)
        worth = steps[k] * further + (top - k * bottom) * worth
        scale = further
    return worth


def half_steps(takes, mask):
    """Return the `forward_steps` of a polynomial in r that has the sign of win_r - 1/2 for r above 0.

    Both the parts and the whole of `factor_wins` are determinants with one row for each mixed start, and each
    row is linear in r; so the polynomial is told by its worths at one number more than there are rows.
    """
    values = []
    for r in range((1 << len(takes)) - 1):
        whole, parts = factor_wins(takes, r, 1)
        values.append(2 * parts[mask] - whole)
    return forward_steps(values)


def tipping(world, lot, *, parts=16):
    """Return the greatest whole number a with a / parts at most tip of the lot."""
    ask_at_most(world, 4)
    ask_linked(world)
    mask = mask_of(lot, world.size)
    if mask in (0, (1 << world.size) - 1):
        raise BadLot(None)
    ask_number(parts, "parts", 1, 1000)
    steps = half_steps(world.takes, mask)
    low, high = 0, 1
    while worth_at(steps, high, parts) <= 0:
        low, high = high, 2 * high
    while high - low > 1:
        middle = (low + high) // 2
        if worth_at(steps, middle, parts) > 0:
            high = middle
        else:
            low = middle
    return low


def paces(world):
    """Return (side of place 0, other side, p, s) for a web with two paces, or None."""
    both = sides(world)
    if both is None or not is_two_way(world):
        return None
    near, takes = both[0], world.takes
    ratios = [lowest(takes[i][j], takes[j][i]) for i, j in world.ties() if i in near]
    if ratios[0] == (1, 1) or ratios.count(ratios[0]) < len(ratios):
        return None
    places = range(world.size)
    slow = tuple([tuple([takes[j][i] if i in near else takes[i][j] for j in places]) for i in places])
    return both + (ratios[0], slow)


def pair_of_lots(value):
    """Return two lots that have each place just once, of 2 to 6 places together, or raise BadBlocks."""
    if not is_row(value) or len(value) != 2 or not is_row(value[0]) or not is_row(value[1]):
        raise BadBlocks(-1)
    size = len(value[0]) + len(value[1])
    if not is_between(size, 2, 6):
        raise BadBlocks(-1)
    return check_blocks(value, size)


def pace_odds(pace, factor, lots):
    """Return the odds of a web with this pace and one factor, by the two sides."""
    p = above_zero(pace, "pace")
    r = from_one(factor, "factor")
    if r == (1, 1):
        raise BadFraction("factor")
    near, far = pair_of_lots(lots)
    gain = less(times(r, r), 1)
    slow = over(gain, added(1, times(r, p)))
    fast = over(times(p, gain), added(r, p))
    return tuple([slow if place in near else fast for place in range(len(near) + len(far))])
