"""What calls add to the last grade, and the calls and takes of a drawn jury."""

from copyrates.juries import Jury
from copyrates.linking import ask_small
from copyrates.ratios import less, times, total_of
from copyrates.sayrows import mean_says, said
from copyrates.wins import mean_last, win


def call_worth(world, lot):
    """Return the mean sum of the says of the places whose grades calls change, over the run from the lot."""
    ask_small(world)
    return less(win(world, lot), said(world, lot))


def rise_worth(world, grades):
    """Return the mean sum of the says times the rises of grades by calls, over the run from the grades."""
    ask_small(world)
    return less(mean_last(world, grades), mean_says(world, grades))


def rate_sum(table, ones, others):
    """Return the sum of the entries from the places of the one row to those of the other."""
    return sum([table[i][j] for i in ones for j in others])


def out_and_in(world):
    """Return the mean sum of the calls out of a drawn jury, and that of the takes between its places."""
    ask_small(world)
    jury = Jury(world)
    calls, takes = [], []
    for lot, chance in jury:
        outside = [place for place in range(world.size) if place not in lot]
        calls.append(times(chance, rate_sum(world.calls, lot, outside)))
        takes.append(times(chance, rate_sum(world.takes, lot, lot)))
    return (total_of(calls), total_of(takes))
