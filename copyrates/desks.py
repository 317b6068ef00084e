"""A desk: a world, its held places and its grades, kept up to date through deeds that can be taken back."""

from copyrates.doing import grades_of
from copyrates.errors import BadMark, BadPlace, Fixed, ManyHeads, NoDeed
from copyrates.helds import held_world
from copyrates.kinds import ask_at_most, ask_from, ask_place, ask_whole, tie_of, tie_places
from copyrates.marks import mark_of, rate_of
from copyrates.masks import lot_in, mask_of
from copyrates.ratios import total_of
from copyrates.runtables import Run
from copyrates.settings import Setting
from copyrates.wins import last_chances
from copyrates.worlds import World, with_entry


class Desk:
    """A world with grades and held places; what it tells is always that of the deeds that stand."""

    def __init__(self, world, grades, *, held=()):
        ask_at_most(world, 5)
        row = grades_of(grades, world.size)
        # One setting more than there are deeds: each deed puts its own behind the others.
        self._settings = (Setting(world, mask_of(held, world.size), row, (), row),)
        self._deeds = ()

    def _put(self, deed, setting):
        """Put a deed that is done, and what it leads to, behind the others."""
        self._settings = self._settings + (setting,)
        self._deeds = self._deeds + (deed,)

    def mark(self, i, j, word):
        """Do a mark; tell whether it changed the grades."""
        told = mark_of((i, j, word), self.rates.size)
        if told is None or rate_of(self.now, told) == 0:
            raise BadMark(0)
        before = self.grades
        self._put(("mark",) + told, self._settings[-1].marked(told))
        return self.grades != before

    def set_take(self, tie, number):
        """Set the rate of a take of the world as set; a call goes with the last take."""
        pair = tie_places(tie, self.rates.size)
        ask_from(number, "number", 0)
        takes, calls = with_entry(self.rates.takes, pair, number), self.rates.calls
        if number == 0:
            calls = with_entry(calls, pair, 0)
        self._put(("take", pair, number), self._settings[-1].rated(World(takes, calls=calls)))

    def set_call(self, tie, number):
        """Set the rate of a call of the world as set."""
        pair = tie_of(self.rates, tie)
        ask_from(number, "number", 0)
        world = World(self.rates.takes, calls=with_entry(self.rates.calls, pair, number))
        self._put(("call", pair, number), self._settings[-1].rated(world))

    def hold(self, place):
        """Hold a place from now on."""
        ask_place(place, self.rates.size)
        if place in self.held:
            raise BadPlace(place)
        self._put(("hold", place), self._settings[-1].masked(self._settings[-1].mask | (1 << place)))

    def free(self, place):
        """Hold a place no longer."""
        ask_place(place, self.rates.size)
        if place not in self.held:
            raise BadPlace(place)
        self._put(("free", place), self._settings[-1].masked(self._settings[-1].mask - (1 << place)))

    def set_grades(self, grades):
        """Set the grades, with which further marks begin."""
        row = grades_of(grades, self.rates.size)
        self._put(("grades", row), self._settings[-1].begun(row))

    def back(self):
        """Take the last deed that stands back and return it."""
        if len(self._deeds) == 0:
            raise NoDeed()
        deed = self._deeds[-1]
        self._deeds = self._deeds[:-1]
        self._settings = self._settings[:-1]
        return deed

    @property
    def rates(self):
        """The world as set."""
        return self._settings[-1].world

    @property
    def now(self):
        """The world now: as set, but for the rates of the held places."""
        return held_world(self.rates, self.held)

    @property
    def grades(self):
        """The present grades."""
        return self._settings[-1].row

    @grades.setter
    def grades(self, value):
        raise Fixed("grades")

    @property
    def held(self):
        """The lot of the held places."""
        return lot_in(self._settings[-1].mask)

    @property
    def run(self):
        """The run of the marks done."""
        return Run(self.rates.size, self._settings[-1].marks)

    def began(self):
        """Return the grades with which the marks done began."""
        return self._settings[-1].first

    def done(self):
        """Return the deeds that stand, in their order."""
        return self._deeds

    def last(self):
        """Return each grade with the chance, above 0, that it is the last grade, grades ascending."""
        try:
            return last_chances(self.now, self.grades)
        except ManyHeads as fault:
            raise ManyHeads(fault.number) from fault

    def at_least(self, grade):
        """Return the chance that the last grade is this grade or more."""
        chances = self.last()
        ask_whole(grade, "grade")
        return total_of([chance for own, chance in chances if own >= grade])

    def back_lots(self, lot):
        """Return the lot to which the marks done step the lot back."""
        return self.run & lot

    def twin(self):
        """Return another desk with the same state and the same deeds."""
        other = Desk(self.rates, self.grades, held=self.held)
        other._settings = self._settings
        other._deeds = self._deeds
        return other

    def __iter__(self):
        return iter(self._deeds)

    def __len__(self):
        return len(self._deeds)
