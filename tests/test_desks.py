"""Points 136 to 139: desks and their deeds."""

import random
import unittest
from fractions import Fraction
from itertools import product
from time import perf_counter

from copyrates.desks import Desk
from copyrates.doing import end_grades
from copyrates.errors import Fixed, ManyHeads, NoDeed, RatesError
from copyrates.helds import held_world
from copyrates.runtables import Run
from copyrates.wins import last_chances
from copyrates.worlds import World
from tests.kit import BIG, NO_WHOLE, Checks, lots, pair, ring_takes, some_linked, table

TWO = World([[0, 1], [2, 0]], calls=[[0, 0], [1, 0]])
THREE = World([[0, 1, 0], [2, 0, 3], [1, 1, 0]], calls=[[0, 1, 0], [0, 0, 2], [0, 0, 0]])
FIVE = World(table(5, lambda i, j: BIG - 6 * i - j), calls=table(5, lambda i, j: BIG if i < j else 0))
FAR = 10 ** 12


def shown(desk):
    """All that a desk tells, but for the chances."""
    return (
        (desk.rates.takes, desk.rates.calls), (desk.now.takes, desk.now.calls), desk.grades, desk.held,
        (desk.run.size, desk.run.marks), desk.began(), desk.done(), len(desk), tuple(desk),
        tuple(desk.back_lots(lot) for lot in lots(desk.rates.size)),
    )


def do_deed(desk, deed):
    word, rest = deed[0], deed[1:]
    calls = {"mark": desk.mark, "take": desk.set_take, "call": desk.set_call, "hold": desk.hold, "free": desk.free,
             "grades": desk.set_grades}
    return calls[word](*rest)


def outcome(call):
    """What a call returns, or its error and attributes."""
    try:
        return call()
    except RatesError as error:
        return type(error).__name__, tuple(vars(error).items())


class Model:
    """A desk in the plainest form: lists that each deed changes."""

    def __init__(self, world, grades, held):
        self.takes, self.calls = ([list(row) for row in rows] for rows in (world.takes, world.calls))
        self.row, self.first, self.held, self.marks = tuple(grades), tuple(grades), set(held), []

    def do(self, deed):
        word, rest = deed[0], deed[1:]
        if word == "mark":
            self.marks.append(rest)
            self.row = end_grades(self.row, [rest])
        elif word in ("take", "call"):
            (i, j), number = rest
            (self.takes if word == "take" else self.calls)[i][j] = number
            if word == "take" and number == 0:
                self.calls[i][j] = 0
        elif word == "hold":
            self.held.add(rest[0])
        elif word == "free":
            self.held.remove(rest[0])
        else:
            self.row = self.first = rest[0]
            self.marks = []

    def shown(self, deeds):
        world = World(self.takes, calls=self.calls)
        now = held_world(world, tuple(self.held))
        run = Run(world.size, self.marks)
        return (
            (world.takes, world.calls), (now.takes, now.calls), self.row, tuple(sorted(self.held)),
            (world.size, tuple(self.marks)), self.first, tuple(deeds), len(deeds), tuple(deeds),
            tuple(run.back(lot) for lot in lots(world.size)),
        )


def some_deed(desk, draw):
    """A deed of any kind; it may be one that is refused."""
    n = desk.rates.size
    i, j, place = (draw.randrange(n) for _ in range(3))
    word = draw.choice(("mark", "mark", "mark", "take", "call", "hold", "free", "grades"))
    if word == "mark":
        return ("mark", i, j, draw.choice(("take", "call")))
    if word in ("take", "call"):
        return (word, (i, j), draw.choice((0, 0, 1, 2, 5, -1)))
    if word == "grades":
        return ("grades", tuple(draw.randrange(-2, 3) for _ in range(n)))
    return (word, place)


class AgainstModel(Checks):
    def test_random_deeds(self):
        kinds = set()
        for seed, world in enumerate([TWO, THREE, World([[0] * 3] * 3)] + some_linked(4, 30, 136)[:2] + [FIVE]):
            draw = random.Random(seed)
            first, held = tuple(draw.randrange(-3, 4) for _ in range(world.size)), draw.choice(((), (1,), [1, 0]))
            desk, deeds = Desk(world, first, held=held), []
            for _ in range(70):
                before = shown(desk)
                if draw.randrange(4) == 0:
                    told = outcome(desk.back)
                    self.assertEqual(told, deeds.pop() if deeds else ("NoDeed", ()))
                    kinds.add(("back", told[0]))
                else:
                    deed = some_deed(desk, draw)
                    told = outcome(lambda: do_deed(desk, deed))
                    if isinstance(told, tuple):
                        self.assertEqual(shown(desk), before)
                        kinds.add(told[0])
                    else:
                        self.assertIs(told, before[2] != desk.grades if deed[0] == "mark" else None)
                        deeds.append(deed)
                        kinds.add((deed[0], told))
                model = Model(world, first, held)
                for deed in deeds:
                    model.do(deed)
                self.same(shown(desk), model.shown(deeds))
                self.told(shown(desk))
        wanted = {("mark", True), ("mark", False), "BadMark", "BadTie", "BadNumber", "BadPlace", ("back", "NoDeed")}
        wanted |= {(word, None) for word in ("take", "call", "hold", "free", "grades")}
        self.assertTrue(wanted <= kinds)

    def test_new_desk_with_the_same_deeds(self):
        draw = random.Random(138)
        desk = Desk(THREE, [3, 1, 2], held=(2,))
        for _ in range(90):
            if len(desk) > 9 or (len(desk) and draw.randrange(3) == 0):
                desk.back()
            else:
                outcome(lambda: do_deed(desk, some_deed(desk, draw)))
            other = Desk(THREE, (3, 1, 2), held=[2])
            for deed in desk.done():
                do_deed(other, deed)
            self.same(shown(desk), shown(other))
            self.same(outcome(desk.last), outcome(other.last))
            self.same(outcome(lambda: desk.at_least(2)), outcome(lambda: other.at_least(2)))

    def test_sixty_deeds(self):
        desk = Desk(FIVE, [5, 4, -FAR, FAR, 0])
        before = [shown(desk)]
        deeds = [("hold", 1), ("take", (0, 4), 0), ("grades", (1, 2, 3, 4, 5)), ("mark", 0, 2, "take"),
                 ("call", (2, 3), BIG), ("free", 1), ("mark", 3, 4, "call"), ("take", (0, 4), 7), ("mark", 2, 1, "take"),
                 ("call", (0, 4), 3)]
        since = perf_counter()
        for deed in deeds * 6:
            do_deed(desk, deed)
            before.append(shown(desk))
        self.assertEqual(len(desk), 60)
        self.same(desk.done(), tuple(deeds * 6))
        told = desk.last()
        self.same(told, last_chances(desk.now, desk.grades))
        for deed in (deeds * 6)[::-1]:
            self.same(shown(desk), before.pop())
            self.same(desk.back(), deed)
        self.same(shown(desk), before.pop())
        self.assertLess(perf_counter() - since, 8)
        with self.assertRaises(NoDeed) as caught:
            desk.back()
        self.assertEqual(vars(caught.exception), {})


class State(Checks):
    def test_beginning(self):
        desk = Desk(THREE, [5, -1, 7], held=[2, 0])
        self.assertEqual(desk.rates, THREE)
        self.same((desk.grades, desk.held, desk.began(), desk.done(), len(desk)), ((5, -1, 7), (0, 2), (5, -1, 7), (), 0))
        self.assertEqual(desk.now, held_world(THREE, (0, 2)))
        self.assertIsInstance(desk.run, Run)
        self.same((desk.run.size, desk.run.marks), (3, ()))
        self.same(Desk(THREE, (5, -1, 7)).held, ())
        self.assertEqual(list(desk), [])

    def test_world_that_is_not_linked(self):
        desk = Desk(World([[0] * 5] * 5), (1, 2, 3, 4, 5))
        self.same(outcome(lambda: desk.mark(0, 1, "take")), ("BadMark", (("at", 0),)))
        desk.set_take((0, 1), BIG)
        self.assertIs(desk.mark(0, 1, "take"), True)
        self.same(desk.grades, (2, 2, 3, 4, 5))

    def test_rates_of_held_places(self):
        desk = Desk(TWO, [5, 7], held=(1,))
        desk.set_take([1, 0], 9)
        desk.set_call((1, 0), 4)
        self.same((desk.rates.takes[1], desk.rates.calls[1]), ((9, 0), (4, 0)))
        self.same((desk.now.takes[1], desk.now.calls[1]), ((0, 0), (0, 0)))
        self.same(outcome(lambda: desk.mark(1, 0, "take")), ("BadMark", (("at", 0),)))
        desk.free(1)
        self.same((desk.now.takes[1], desk.now.calls[1]), ((9, 0), (4, 0)))
        self.assertIs(desk.mark(1, 0, "call"), False)
        self.assertIs(desk.mark(1, 0, "take"), True)
        self.same(desk.done(), (("take", (1, 0), 9), ("call", (1, 0), 4), ("free", 1), ("mark", 1, 0, "call"),
                                ("mark", 1, 0, "take")))

    def test_take_of_none_ends_the_call(self):
        desk = Desk(TWO, [5, 7])
        desk.set_take((1, 0), 0)
        self.same((desk.rates.takes[1][0], desk.rates.calls[1][0]), (0, 0))
        desk.set_take((1, 0), 3)
        self.same((desk.rates.takes[1][0], desk.rates.calls[1][0]), (3, 0))
        (desk.back(), desk.back())
        self.assertEqual(desk.rates, TWO)
        # A deed that changes nothing is one, too.
        desk.set_take((1, 0), 2)
        desk.set_grades([5, 7])
        self.same((len(desk), desk.back(), desk.back()), (2, ("grades", (5, 7)), ("take", (1, 0), 2)))

    def test_grades_begin_anew(self):
        desk = Desk(THREE, [5, -1, 7])
        desk.mark(0, 1, "take")
        desk.mark(1, 2, "call")
        self.same((desk.grades, desk.began(), desk.run.text()), ((-1, 7, 7), (5, -1, 7), "0<1 1+2"))
        desk.set_grades([2, 1, 0])
        self.same((desk.grades, desk.began(), desk.run.text()), ((2, 1, 0), (2, 1, 0), ""))
        desk.mark(0, 1, "take")
        self.same((desk.grades, desk.run.text(), desk.back_lots([0])), ((1, 1, 0), "0<1", (1,)))
        (desk.back(), desk.back())
        self.same((desk.grades, desk.began(), desk.run.text(), desk.back_lots((0, 2))), ((-1, 7, 7), (5, -1, 7), "0<1 1+2",
                                                                                       (1, 2)))

    def test_grades_are_fixed(self):
        desk = Desk(TWO, [5, 7])
        for value in ((1, 2), None):
            with self.assertRaises(Fixed) as caught:
                desk.grades = value
            self.assertEqual(vars(caught.exception), {"name": "grades"})
        self.same((desk.grades, len(desk)), ((5, 7), 0))

    def test_iterated(self):
        desk = Desk(TWO, [5, 7])
        desk.mark(0, 1, "take")
        desk.hold(0)
        self.same(list(desk), [("mark", 0, 1, "take"), ("hold", 0)])
        self.same((len(desk), desk.done()), (2, tuple(desk)))

    def test_arguments_stay(self):
        grades, held, tie, lot = [5, 7], [1], [1, 0], [1]
        desk = Desk(TWO, grades, held=held)
        desk.set_take(tie, 4)
        desk.set_grades(grades)
        desk.back_lots(lot)
        grades[0], held[0], tie[0] = 9, 0, 7
        self.same((desk.grades, desk.began(), desk.held, desk.done()[0]), ((5, 7), (5, 7), (1,), ("take", (1, 0), 4)))
        self.assertEqual(lot, [1])


class Chances(Checks):
    def test_last(self):
        draw = random.Random(136)
        for world in [TWO, THREE] + some_linked(4, 30, 7)[:3]:
            desk = Desk(world, [draw.randrange(4) for _ in range(world.size)])
            for mark in ((0, 1, "take"), (1, 0, "call")):
                outcome(lambda: desk.mark(*mark))
                told = self.told(desk.last())
                self.same(told, last_chances(desk.now, desk.grades))
                for grade in range(-1, 6):
                    chance = sum(Fraction(*part) for own, part in told if own >= grade)
                    self.same(self.told(desk.at_least(grade)), pair(chance))

    def test_one_held_place(self):
        desk = Desk(THREE, [5, -1, 7], held=[1])
        self.same((desk.last(), desk.at_least(-1), desk.at_least(0)), (((-1, (1, 1)),), (1, 1), (0, 1)))

    def test_many_heads(self):
        for desk, number in ((Desk(THREE, [5, -1, 7], held=(0, 1)), 2), (Desk(FIVE, [1] * 5, held=[0, 1, 2, 3, 4]), 5),
                             (Desk(World([[0, 0], [0, 0]]), (1, 1)), 2)):
            for call in (desk.last, lambda: desk.at_least(3), lambda: desk.at_least(None)):
                with self.assertRaises(ManyHeads) as caught:
                    call()
                self.assertEqual(vars(caught.exception), {"number": number})
                cause = caught.exception.__cause__
                self.assertIs(type(cause), ManyHeads)
                self.assertEqual(vars(cause), {"number": number})
                self.assertIsNot(cause, caught.exception)
            self.same(len(desk), 0)

    def test_decided_runs(self):
        draw = random.Random(139)
        many = 0
        for seed in range(30):
            first = tuple(draw.randrange(-5, 6) for _ in range(3))
            desk = Desk(THREE, first)
            for _ in range(draw.randrange(4, 12)):
                mark = draw.choice([(0, 1, "take"), (1, 2, "take"), (2, 0, "take"), (1, 0, "take"), (0, 1, "call")])
                desk.mark(*mark)
            if not desk.run.decided:
                continue
            grade = max(first[place] for place in desk.run.jury)
            self.same(desk.grades, (grade,) * 3)
            desk.mark(1, 2, "call")
            desk.set_take((2, 1), 50)
            desk.set_call((2, 1), seed)
            self.same(desk.grades, (grade,) * 3)
            self.same((desk.at_least(grade), desk.at_least(grade + 1), desk.last()), ((1, 1), (0, 1), ((grade, (1, 1)),)))
            many += 1
        self.assertGreater(many, 5)


class Twins(Checks):
    def test_own_ways(self):
        desk = Desk(THREE, [5, -1, 7], held=(2,))
        for deed in (("mark", 0, 1, "take"), ("hold", 0), ("take", (1, 2), 0), ("grades", (1, 2, 3)), ("free", 2)):
            do_deed(desk, deed)
        other = desk.twin()
        self.assertIsInstance(other, Desk)
        self.assertIsNot(other, desk)
        self.same(shown(other), shown(desk))
        before = shown(desk)
        other.set_grades([0, 0, 0])
        other.set_call((1, 0), 4)
        self.same(shown(desk), before)
        for _ in range(7):
            other.back()
        self.same(shown(other), shown(Desk(THREE, [5, -1, 7], held=(2,))))
        self.same(shown(desk), before)
        third = desk.twin().twin()
        for _ in range(5):
            desk.back()
        self.same(shown(third), before)
        self.same(third.back(), ("free", 2))

    def test_no_deeds(self):
        desk = Desk(TWO, [5, 7])
        other = desk.twin()
        other.hold(1)
        self.same((len(desk), len(other), desk.held), (0, 1, ()))


class Refused(Checks):
    def test_new(self):
        six = World([[0] * 6] * 6)
        for world in (six, World(ring_takes(6))):
            self.refused("TooMany", 6, Desk, world, None, held=None)
        for grades in (None, 3, "ab", (), [1], (1, 2, 3)):
            self.refused("BadGrades", -1, Desk, TWO, grades, held=None)
        for entry in NO_WHOLE:
            self.refused("BadGrades", 1, Desk, TWO, (1, entry), held=None)
        for lot, place in ((None, None), (1, None), ((0, 2), 2), ([1, 1], 1), ((True,), True)):
            self.refused("BadLot", place, Desk, TWO, (1, 2), held=lot)

    def check(self, name, value, call, *args):
        """The desk refuses this, and stays as it was."""
        desk = call.__self__
        before = shown(desk)
        self.refused(name, value, call, *args)
        self.same(shown(desk), before)

    def test_deeds(self):
        desk = Desk(THREE, [5, -1, 7], held=(2,))
        desk.mark(1, 0, "take")
        for mark in product((0, 2, 3, True, None), (0, 1, -1), ("take", "call", "copy", None, 1)):
            if mark not in ((0, 1, "take"), (0, 1, "call")):
                self.check("BadMark", 0, desk.mark, *mark)
        # The tie does not call; the pair is no tie; the place is held.
        for mark in ((1, 0, "call"), (0, 2, "take"), (2, 0, "take")):
            self.check("BadMark", 0, desk.mark, *mark)
        for tie in (None, 3, "01", (0,), (0, 1, 2), (1, 1), (0, 3), (-1, 0), (True, 2), [0, None], ((0, 1),)):
            self.check("BadTie", tie, desk.set_take, tie, None)
            self.check("BadTie", tie, desk.set_call, tie, None)
        self.check("BadTie", (0, 2), desk.set_call, (0, 2), None)
        for number in NO_WHOLE + (-1,):
            self.check("BadNumber", "number", desk.set_take, (0, 2), number)
            self.check("BadNumber", "number", desk.set_call, [0, 1], number)
        for place in (-1, 3, True, None, "0", (0,)):
            self.check("BadPlace", place, desk.hold, place)
            self.check("BadPlace", place, desk.free, place)
        self.check("BadPlace", 2, desk.hold, 2)
        self.check("BadPlace", 1, desk.free, 1)
        for grades in (None, 3, "abc", (), [1, 2], (1, 2, 3, 4)):
            self.check("BadGrades", -1, desk.set_grades, grades)
        for entry in NO_WHOLE:
            self.check("BadGrades", 1, desk.set_grades, (1, entry, entry))
        for lot, place in ((None, None), (1, None), ((0, 3), 3), ([1, 1], 1), ((True,), True)):
            self.check("BadLot", place, desk.back_lots, lot)
        for grade in NO_WHOLE:
            self.check("BadNumber", "grade", desk.at_least, grade)
        self.same(desk.back(), ("mark", 1, 0, "take"))
        desk.hold(1)
        desk.hold(0)
        for place in (True, False, 1.0, "1"):
            self.check("BadPlace", place, desk.free, place)

    def test_call_of_a_tie_as_set(self):
        # (2, 0) is no tie of the world now, but one of the world as set.
        desk = Desk(THREE, [5, -1, 7], held=(2,))
        desk.set_call((2, 0), 3)
        self.same(desk.rates.calls[2][0], 3)
        desk.set_take((0, 2), 1)
        desk.set_call((0, 2), 1)
        desk.set_take((0, 2), 0)
        self.check("BadTie", (0, 2), desk.set_call, (0, 2), 1)


if __name__ == "__main__":
    unittest.main()
