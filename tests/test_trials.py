"""Points 140 and 141: trials on a desk, and the mean over one step."""

import random
import unittest
from fractions import Fraction
from time import perf_counter

from copyrates.desks import Desk
from copyrates.errors import BadNumber, ManyHeads, RatesError
from copyrates.sayrows import says
from copyrates.trials import Trial, step_mean, tried
from copyrates.wins import last_chances, win_row
from copyrates.worlds import World
from tests.kit import BIG, NO_WHOLE, Checks, do, own, pair, rate, ring_takes, table
from tests.test_desks import FIVE, THREE, TWO, do_deed, outcome, shown, some_deed
from tests.test_wins import linked_worlds, one_head_worlds

DEEDS = (("mark", 0, 1, "take"), ("hold", 0), ("take", (1, 2), 5), ("call", (1, 2), 4), ("free", 2), ("grades", (1, 2, 3)))


class Trials(Checks):
    def desk(self):
        desk = Desk(THREE, [5, -1, 7], held=(2,))
        desk.mark(1, 0, "take")
        desk.set_call((0, 1), 6)
        return desk

    def test_put_back(self):
        desk = self.desk()
        before = shown(desk)
        with Trial(desk) as trial:
            self.assertIsInstance(trial, Trial)
            self.assertIs(trial.desk, desk)
            for deed in DEEDS:
                do_deed(trial.desk, deed)
            self.assertEqual(len(desk), 8)
            self.same(desk.grades, (1, 2, 3))
        self.same(shown(desk), before)
        self.same(desk.back(), ("call", (0, 1), 6))

    def test_taken_back_further(self):
        # The trial takes back deeds that were done ahead of it; they stand again behind it.
        desk = self.desk()
        before = shown(desk)
        with Trial(desk):
            desk.back()
            desk.back()
            self.assertEqual(len(desk), 0)
            desk.hold(0)
        self.same(shown(desk), before)

    def test_errors_go_on(self):
        desk = self.desk()
        before = shown(desk)
        for error in (KeyError("x"), BadNumber("deed"), ZeroDivisionError()):
            with self.assertRaises(type(error)) as caught:
                with Trial(desk):
                    desk.set_grades([0, 0, 0])
                    raise error
            self.assertIs(caught.exception, error)
            self.same(shown(desk), before)
        with self.assertRaises(ManyHeads) as caught:
            with Trial(desk) as trial:
                trial.desk.hold(0)
                trial.desk.last()
        self.assertEqual(vars(caught.exception), {"number": 2})
        self.assertIs(type(caught.exception.__cause__), ManyHeads)
        self.same(shown(desk), before)

    def test_one_trial_again(self):
        desk = self.desk()
        trial = Trial(desk)
        self.assertIs(trial.desk, desk)
        for k in range(3):
            before = shown(desk)
            with trial as told:
                self.assertIs(told, trial)
                desk.set_grades([k, k, k])
            self.same(shown(desk), before)
            desk.set_grades([k, 0, 9])
        self.same(len(desk), 5)

    def test_trials_within(self):
        desk = self.desk()
        outer = shown(desk)
        with Trial(desk):
            desk.set_grades([1, 1, 1])
            inner = shown(desk)
            with Trial(desk):
                desk.free(2)
                desk.mark(2, 0, "take")
            self.same(shown(desk), inner)
            twin = desk.twin()
            with Trial(twin) as trial:
                trial.desk.back()
                trial.desk.set_take((0, 1), 0)
                self.same(shown(desk), inner)
                desk.hold(1)
            self.same(shown(twin), inner)
            self.same(desk.held, (1, 2))
        self.same(shown(desk), outer)
        self.same(shown(twin), inner)

    def test_random(self):
        draw = random.Random(141)
        desk = self.desk()
        for _ in range(40):
            before = shown(desk)
            try:
                with Trial(desk):
                    for _ in range(draw.randrange(6)):
                        if draw.randrange(4) == 0:
                            desk.back()
                        else:
                            do_deed(desk, some_deed(desk, draw))
            except RatesError:
                pass
            self.same(shown(desk), before)
            outcome(lambda: do_deed(desk, some_deed(desk, draw)))
        self.assertGreater(len(desk), 5)


class Tried(Checks):
    def test_answers(self):
        desk = Desk(THREE, [5, -1, 7], held=(2,))
        desk.mark(1, 0, "take")
        before = shown(desk)
        for deeds in ((), DEEDS, list(map(list, DEEDS)), [["mark", 0, 1, "call"], ("free", 2)], DEEDS[4:], [("hold", 1)],
                      [("take", [2, 0], 3), ("free", 2), ("call", [2, 1], 3)]):
            other = desk.twin()
            for deed in deeds:
                do_deed(other, deed)
            wanted = {
                "last": outcome(lambda: last_chances(other.now, other.grades)), "says": outcome(lambda: says(other.now)),
                "win": outcome(lambda: win_row(other.now)), "grades": other.grades, "run": other.run.table,
            }
            for question, answer in wanted.items():
                self.same(self.told(outcome(lambda: tried(desk, deeds, question))), answer)
                self.same(shown(desk), before)

    def test_plain(self):
        desk = Desk(TWO, [5, 7])
        self.same(tried(desk, [("grades", [1, 2])], "grades"), (1, 2))
        self.same(tried(desk, [("take", (0, 1), 2)], "says"), ((1, 2), (1, 2)))
        self.same(tried(desk, [("mark", 0, 1, "take")], "run"), ((1,), (1,)))
        self.same(tried(desk, [["call", [1, 0], 0]], "win"), ((0, 1), (2, 3), (1, 3), (1, 1)))
        self.same((desk.done(), desk.grades), ((), (5, 7)))

    def refused_and_back(self, name, value, desk, deeds, question):
        before = shown(desk)
        self.refused(name, value, tried, desk, deeds, question)
        self.same(shown(desk), before)

    def test_deeds_of_no_form(self):
        desk = Desk(THREE, [5, -1, 7])
        for deeds in (None, 3, "mark", {0: ("hold", 0)}, range(0)):
            self.refused_and_back("BadNumber", "deed", desk, deeds, None)
        for deed in (None, 3, "hold", (), ("hold",), ("hold", 0, 1), ("free",), ("mark", 0, 1), ("mark", (0, 1), "take"),
                     ("take", (0, 1)), ("take", 0, 1, 5), ("call", (0, 1), 3, 4), ("grades",), ("grades", 1, 2, 3),
                     ("keep", 0), ("keep",), ("", 0), (None, 0), (["hold"], 0), (1, 2), ("hold ", 0), {"hold": 0}, ("Hold", 0)):
            self.refused_and_back("BadNumber", "deed", desk, [deed], None)
            self.refused_and_back("BadNumber", "deed", desk, [("hold", 0), deed, ("hold", 7)], None)

    def test_deeds_one_by_one(self):
        # What comes ahead is done, and refused, ahead of what is behind it.
        desk = Desk(THREE, [5, -1, 7])
        self.refused_and_back("BadPlace", 7, desk, [("hold", 0), ("hold", 7), None], None)
        self.refused_and_back("BadPlace", 0, desk, [("hold", 0), ("hold", 0), None], None)
        self.refused_and_back("BadMark", 0, desk, [("hold", 0), ("mark", 0, 1, "take")], "grades")
        self.refused_and_back("BadTie", (0, 2), desk, [("call", (0, 2), 1)], "grades")
        self.refused_and_back("BadNumber", "number", desk, [("take", (0, 2), -1)], "grades")
        self.refused_and_back("BadGrades", 2, desk, [("grades", (0, 2, None))], "grades")

    def test_questions(self):
        desk = Desk(THREE, [5, -1, 7])
        for question in (None, 3, "", "mean", "Last", ("last",), ["win"], True):
            self.refused_and_back("BadNumber", "question", desk, [("hold", 0)], question)
            self.refused_and_back("BadPlace", 7, desk, [("hold", 7)], question)
        self.refused_and_back("NotLinked", (0,), desk, [("hold", 0)], "says")
        self.refused_and_back("ManyHeads", 2, desk, [("hold", 0), ("hold", 2)], "win")
        with self.assertRaises(ManyHeads) as caught:
            tried(desk, [("hold", 0), ("hold", 2)], "last")
        self.assertEqual(vars(caught.exception.__cause__), {"number": 2})
        self.same(len(desk), 0)

    def test_arguments_stay(self):
        deeds = [["take", [0, 1], 4], ["grades", [1, 2, 3]], ("mark", 1, 2, "take")]
        desk = Desk(THREE, [5, -1, 7])
        tried(desk, deeds, "last")
        self.assertEqual(deeds, [["take", [0, 1], 4], ["grades", [1, 2, 3]], ("mark", 1, 2, "take")])

    def test_greatest(self):
        desk = Desk(FIVE, [5, 4, 3, 2, 1])
        since = perf_counter()
        for question in ("last", "says", "win", "grades", "run"):
            tried(desk, [("take", (0, 1), BIG), ("call", (0, 2), BIG)] * 20, question)
        self.assertLess(perf_counter() - since, 5)


class StepMean(Checks):
    def test_one_step(self):
        draw = random.Random(140)
        for world in linked_worlds((2, 3, 4)) + one_head_worlds():
            if world.size > 4 and draw.randrange(3):
                continue
            for top in (1, 3, 10 ** 12):
                grades = tuple(draw.randrange(-top, top + 1) for _ in range(world.size))
                for grade in sorted(set(grades))[:2] + [top + 1, -top]:
                    mean = Fraction(0)
                    if top == 3:
                        total = sum(map(sum, world.takes)) + sum(map(sum, world.calls))
                        for mark in own(world):
                            chances = last_chances(world, do(grades, [mark]))
                            part = sum(Fraction(*chance) for value, chance in chances if value >= grade)
                            mean += Fraction(rate(world, mark), total) * part
                    else:
                        chances = last_chances(world, grades)
                        mean = sum((Fraction(*chance) for value, chance in chances if value >= grade), start=mean)
                    self.same(self.told(step_mean(world, list(grades), grade)), pair(mean))

    def test_the_chance_itself(self):
        for world in linked_worlds((2, 3, 5)):
            desk = Desk(world, [3, 1, 2, 1, 0][:world.size])
            for grade in range(5):
                self.same(step_mean(desk.now, desk.grades, grade), desk.at_least(grade))

    def test_refused(self):
        for world in (World([[0] * 6] * 6), World(ring_takes(6))):
            self.refused("TooMany", 6, step_mean, world, None, None)
        self.refused("ManyHeads", 2, step_mean, World([[0, 0], [0, 0]]), None, None)
        self.refused("ManyHeads", 3, step_mean, World(table(4, lambda i, j: int((i, j) == (1, 0)))), None, None)
        for grades in (None, 3, "ab", (), [1], (1, 2, 3)):
            self.refused("BadGrades", -1, step_mean, TWO, grades, None)
        for entry in NO_WHOLE:
            self.refused("BadGrades", 1, step_mean, TWO, (1, entry), None)
            self.refused("BadNumber", "grade", step_mean, TWO, (1, 2), entry)

    def test_arguments_stay(self):
        grades = [5, 7]
        self.same(step_mean(TWO, grades, 7), (1, 3))
        self.assertEqual(grades, [5, 7])


if __name__ == "__main__":
    unittest.main()
