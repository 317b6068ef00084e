"""Two walks that the same takes move, told by the pair of places at which they stand."""

from copyrates.chains import chain_rows
from copyrates.ratios import lowest


def unlike_pairs(places):
    """Return all pairs of two unlike ones of the places, ascending if the places are."""
    return [(one, other) for one in places for other in places if one != other]


def pair_rates(takes, pair):
    """Return a dict from each pair to which one take moves the walks, from a pair of unlike places, to its rate."""
    one, other = pair
    rates = {(place, other): take for place, take in enumerate(takes[one]) if take > 0}
    for place, take in enumerate(takes[other]):
        if take > 0:
            rates[(one, place)] = take
    return rates


def pair_rows(takes):
    """Return the equations of the pairs of unlike places, in their order, for walks that surely meet."""
    return chain_rows(unlike_pairs(list(range(len(takes)))), lambda pair: pair_rates(takes, pair))


def pairs_across(size, mask):
    """Return the pairs of a place of the lot with this number and a place outside."""
    return [(one, other) for one, other in unlike_pairs(list(range(size))) if (mask >> one) & 1 > (mask >> other) & 1]


def pair_table(size, parts, whole):
    """Return the table with parts[pair] / whole for each pair of unlike places, and 0 on the diagonal."""
    worths = {pair: lowest(part, whole) for pair, part in parts.items()}
    return tuple([tuple([worths.get((one, other), (0, 1)) for other in range(size)]) for one in range(size)])
