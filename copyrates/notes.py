"""Notes of calls that are not seen: least and greatest calls, and what holds for all worlds between."""

from copyrates.endings import lit
from copyrates.errors import BadTable
from copyrates.juries import Jury
from copyrates.kinds import ask_number, tie_of
from copyrates.linking import ask_small
from copyrates.masks import mask_of
from copyrates.ratios import compare, fraction_of
from copyrates.sandwich import strengths
from copyrates.wins import mean_last, win
from copyrates.worlds import World, calls_from, takes_from, with_entry


def noted_calls(calls, takes):
    """Return a table of calls beside the takes, or raise BadTable; None is no table here."""
    if calls is None:
        raise BadTable(-1)
    return calls_from(calls, takes)


def row_above(table, other):
    """Return the first row with an entry above that of the other table, or None."""
    for at, row in enumerate(table):
        if len([entry for entry, most in zip(row, other[at]) if entry > most]) > 0:
            return at
    return None


class Notes:
    """Takes, and the least and the greatest calls that are possible; they never change."""

    def __init__(self, takes, low, high):
        self.takes = takes_from(takes)
        self.low = noted_calls(low, self.takes)
        self.high = noted_calls(high, self.takes)
        self.size = len(self.takes)
        wrong = row_above(self.low, self.high)
        if wrong is not None:
            raise BadTable(wrong)

    def least(self):
        """Return the world with the least calls."""
        return World(self.takes, calls=self.low)

    def most(self):
        """Return the world with the greatest calls."""
        return World(self.takes, calls=self.high)

    def agrees(self, world):
        """Tell whether the argument is a world that agrees with the notes."""
        if not isinstance(world, World) or world.takes != self.takes:
            return False
        return row_above(self.low, world.calls) is None and row_above(world.calls, self.high) is None

    def narrow(self, tie, low, high):
        """Return the notes with these least and greatest calls on the tie."""
        i, j = tie_of(self, tie)
        ask_number(low, "low", self.low[i][j], self.high[i][j])
        ask_number(high, "high", low, self.high[i][j])
        return Notes(self.takes, with_entry(self.low, (i, j), low), with_entry(self.high, (i, j), high))

    def seen(self, tie, number):
        """Return the notes with just this call on the tie."""
        i, j = tie_of(self, tie)
        ask_number(number, "number", self.low[i][j], self.high[i][j])
        return self.narrow((i, j), number, number)

    @property
    def settled(self):
        """Whether the least and the greatest calls are equal."""
        return self.low == self.high

    def __contains__(self, x):
        return self.agrees(x)

    def __eq__(self, other):
        if not isinstance(other, Notes):
            return False
        return self.takes == other.takes and self.low == other.low and self.high == other.high


def win_ends(notes, lot):
    """Return the least and the greatest win of the lot."""
    ask_small(notes.least())
    return (win(notes.least(), lot), win(notes.most(), lot))


def mean_ends(notes, grades):
    """Return the least and the greatest mean of the last grade."""
    ask_small(notes.least())
    return (mean_last(notes.least(), grades), mean_last(notes.most(), grades))


def size_ends(notes):
    """Return the least and the greatest mean size of the jury."""
    ask_small(notes.least())
    least, most = Jury(notes.least()), Jury(notes.most())
    return (least.mean_size, most.mean_size)


def reaches_chance(world, lot, chance):
    """Tell whether win of the lot is the chance or more, all arguments checked."""
    ask_small(world)
    mask_of(lot, world.size)
    told = fraction_of(chance, "chance")
    return compare(win(world, lot), told) >= 0


def surely(notes, lot, chance):
    """Tell whether win of the lot is the chance or more in every agreeing world."""
    return reaches_chance(notes.least(), lot, chance)


def perhaps(notes, lot, chance):
    """Tell whether win of the lot is the chance or more in some agreeing world."""
    return reaches_chance(notes.most(), lot, chance)


def lit_ends(notes, lot, holders):
    """Return the least and the greatest lasting chance that some place of the lot has grade 1."""
    return (lit(notes.least(), lot, holders), lit(notes.most(), lot, holders))


def rules_around(notes):
    """Return the lower strength of the least world and the upper strength of the most world."""
    lower, _ = strengths(notes.least())
    _, upper = strengths(notes.most())
    return (lower, upper)
