"""Points 19 to 21: lots stepped back, the run's table, decided rows."""

import random
import unittest

from copyrates.runtables import Run, jury_walk, step_back
from tests.kit import NO_WHOLE, Checks, do, lots, some_marks, start, stepped

FAR = 10 ** 12
NO_SIZE = NO_WHOLE + (-1, 0, 1, 7)


def rows():
    """Pairs of a size and a row of marks; some of them are decided."""
    for size in (2, 3, 4, 6):
        for k, many in enumerate((0, 1, 2, 3, 4, 6, 9, 14, 25, 60, 400)):
            for seed in range(4):
                yield size, some_marks(size, many, 1000 * size + 10 * k + seed)


def spread(size, place):
    """Takes that give all places the grade of the place."""
    return [(i, place, "take") for i in range(size) if i != place]


def some_grades(size, seed):
    draw = random.Random(seed)
    for top in (1, 2, 5, FAR):
        yield tuple(draw.randrange(-top, top + 1) for _ in range(size))


class StepBack(Checks):
    def test_one_mark(self):
        for size in (2, 3, 4, 6):
            for lot in lots(size):
                for i in range(size):
                    for j in range(size):
                        for word in ("take", "call"):
                            if i != j:
                                wanted = stepped(lot, [(i, j, word)])
                                self.same(step_back((i, j, word), lot), wanted)
                                self.same(step_back([i, j, word], list(reversed(lot))), wanted)

    def test_plain(self):
        self.same(step_back((0, 1, "take"), (0, 2)), (1, 2))
        self.same(step_back((0, 1, "call"), [2, 0]), (0, 1, 2))
        self.same(step_back((0, 1, "take"), (0, 1)), (1,))
        self.same(step_back((0, 1, "take"), (2, 1)), (1, 2))
        self.same(step_back((0, 1, "call"), ()), ())


class JuryWalk(Checks):
    def test_walk(self):
        for size, marks in rows():
            for lot in (lots(size)[k] for k in (0, 1, -1, len(marks) % (1 << size))):
                walk = list(jury_walk([list(mark) for mark in marks], list(reversed(lot)), size))
                self.same(walk[:1], [lot])
                self.assertEqual(len(walk), len(marks) + 1)
                for k in range(len(marks)):
                    self.same(walk[k + 1], step_back(marks[-1 - k], walk[k]))
                self.same(walk[-1], Run(size, marks).back(lot))

    def test_is_a_generator(self):
        made = jury_walk([(0, 1, "take")], [0], 2)
        self.assertIs(iter(made), made)
        self.same(next(made), (0,))
        self.same(next(made), (1,))
        self.same(next(made, None), None)

    def test_refused_with_the_first_item(self):
        for size in NO_SIZE:
            made = jury_walk(None, None, size)
            self.refused("BadNumber", "size", next, made)
        for marks, at in ((None, -1), ("no", -1), ([(0, 1, "take"), (0, 2, "take")], 1), ([None], 0)):
            made = jury_walk(marks, None, 2)
            self.refused("BadMark", at, next, made)
        for lot, place in ((None, None), (3, None), ([0, 2], 2), ([1, 1], 1), ([True], True)):
            made = jury_walk([(0, 1, "take")], lot, 2)
            self.refused("BadLot", place, next, made)

    def test_arguments_stay(self):
        marks, lot = [[0, 1, "take"]], [2, 0]
        list(jury_walk(marks, lot, 3))
        step_back(marks[0], lot)
        self.assertEqual((marks, lot), ([[0, 1, "take"]], [2, 0]))


class Backwards(Checks):
    def test_back(self):
        for size, marks in rows():
            run = Run(size, marks)
            for lot in lots(size):
                self.same(run.back(lot), stepped(lot, marks))
                self.same(run & list(reversed(lot)), stepped(lot, marks))
                self.same(run.back(list(reversed(lot))), stepped(lot, marks))

    def test_empty_only_from_empty(self):
        for size, marks in rows():
            for lot in lots(size):
                self.assertEqual(Run(size, marks).back(lot) == (), lot == ())

    def test_joined_lots(self):
        for size, marks in rows():
            run = Run(size, marks)
            for lot in lots(size)[::3]:
                for other in lots(size)[::5]:
                    both = sorted({*lot, *other})
                    self.same(run.back(both), tuple(sorted({*run.back(lot), *run.back(other)})))

    def test_grades_one(self):
        for size, marks in rows():
            if size == 6:
                continue
            run = Run(size, marks)
            for first in lots(size):
                ends = do(start(first, size), marks)
                for lot in lots(size):
                    there = any(ends[i] == 1 for i in lot)
                    self.assertEqual(there, bool(set(first) & set(run & lot)))

    def test_refused(self):
        run = Run(3, [(0, 1, "take")])
        for call in (run.back, lambda lot: run & lot):
            self.refused("BadLot", None, call, None)
            self.refused("BadLot", None, call, 1)
            self.refused("BadLot", 3, call, [0, 3])
            self.refused("BadLot", 0, call, (0, 0))
            self.refused("BadLot", False, call, [False])


class Tables(Checks):
    def test_table(self):
        for size, marks in rows():
            run = Run(size, marks)
            wanted = tuple(stepped((i,), marks) for i in range(size))
            self.same(run.table, wanted)
            for i in range(size):
                self.same(run.sources(i), wanted[i])

    def test_ends(self):
        for size, marks in rows():
            run = Run(size, marks)
            for grades in some_grades(size, len(marks)):
                self.same(run.ends(grades), do(grades, marks))
                self.same(run.ends(list(grades)), do(grades, marks))

    def test_same_table(self):
        runs = [Run(3, some_marks(3, k % 6, k)) for k in range(90)]
        seen = set()
        for run in runs:
            for other in runs:
                alike = all(do(start(lot, 3), run.marks) == do(start(lot, 3), other.marks) for lot in lots(3))
                self.assertIs(run == other, alike)
                self.assertIs(run != other, not alike)
                self.assertEqual(run.table == other.table, alike)
                seen.add((alike, run.marks == other.marks))
        self.assertEqual(seen, {(True, True), (True, False), (False, False)})

    def test_equal_only_to_runs_of_its_size(self):
        self.assertIs(Run(2, []) == Run(3, []), False)
        self.assertIs(Run(2, []) == Run(2, ()), True)
        for other in (None, 0, (), ((0,), (1,)), "run"):
            self.assertIs(Run(2, []) == other, False)
            self.assertIs(Run(2, []) != other, True)

    def test_second_run(self):
        for size in (2, 3, 6):
            for seed in range(20):
                one = Run(size, some_marks(size, seed % 7, seed))
                other = Run(size, some_marks(size, seed % 5, 50 + seed))
                both = one + other
                self.assertIs(type(both), Run)
                self.same(both.size, size)
                self.same(both.marks, one.marks + other.marks)
                for i in range(size):
                    self.same(both.sources(i), one & other.sources(i))

    def test_more_calls(self):
        draw = random.Random(3)
        for size, marks in rows():
            more = list(marks)
            for _ in range(3):
                i, j = draw.sample(range(size), 2)
                more.insert(draw.randrange(len(more) + 1), (i, j, "call"))
            for lot in lots(size):
                self.assertLessEqual(set(Run(size, marks) & lot), set(Run(size, more) & lot))

    def test_refused(self):
        run = Run(3, [(0, 1, "take")])
        for place in NO_WHOLE + (-1, 3):
            self.refused("BadPlace", place, run.sources, place)
        for grades, at in ((None, -1), ([1, 2], -1), ([1, 2, 3, 4], -1), ((1, None, True), 1), ("abc", -1)):
            self.refused("BadGrades", at, run.ends, grades)
        self.refused("OtherSize", 2, lambda: run + Run(2, []))
        self.refused("OtherSize", 6, lambda: run + Run(6, []))


class Decided(Checks):
    def test_jury(self):
        seen = 0
        for size, marks in rows():
            for row in (marks, marks + spread(size, len(marks) % size)):
                run = Run(size, row)
                sources = {stepped((i,), row) for i in range(size)}
                self.same(run.decided, len(sources) == 1)
                self.same(run.jury, sources.pop() if run.decided else None)
                seen += run.decided
        self.assertGreater(seen, 100)

    def test_one_grade_from_every_start(self):
        for size, marks in rows():
            if size == 6:
                continue
            for row in (marks, marks + spread(size, 1)):
                run = Run(size, row)
                alike = all(len(set(do(start(lot, size), row))) == 1 for lot in lots(size))
                self.assertEqual(run.decided, alike)
                if run.decided:
                    for grades in some_grades(size, 5):
                        self.same(run.ends(grades), (max(grades[i] for i in run.jury),) * size)

    def test_marks_ahead_and_behind(self):
        for size, marks in rows():
            whole = Run(size, marks + spread(size, 0))
            more = Run(size, some_marks(size, 5, size))
            self.same((whole + more).jury, whole.jury)
            self.same((more + whole).jury, more & whole.jury)

    def test_not_decided(self):
        self.same((Run(2, []).decided, Run(2, []).jury), (False, None))
        self.same(Run(3, [(0, 1, "take")]).jury, None)
        self.same(Run(3, [(0, 1, "take"), (2, 0, "take")]).jury, (1,))
        self.same(Run(3, [(1, 0, "call"), (0, 1, "call"), (2, 0, "call")]).jury, None)
        self.same(Run(2, [(1, 0, "call"), (0, 1, "call")]).jury, (0, 1))


class Texts(Checks):
    def test_there_and_back(self):
        for size, marks in rows():
            run = Run(size, marks)
            wanted = " ".join(f"{i}{'<' if word == 'take' else '+'}{j}" for i, j, word in marks)
            self.same(run.text(), wanted)
            back = Run.from_text(wanted, size)
            self.assertIs(type(back), Run)
            self.same(back.marks, tuple(marks))
            self.same(back.size, size)

    def test_plain(self):
        self.same(Run.from_text("", 2).marks, ())
        self.same(Run.from_text("5<0 0+5", 6).marks, ((5, 0, "take"), (0, 5, "call")))
        self.same(Run.word_of((3, 1, "take")), "3<1")
        self.same(Run.word_of([0, 4, "call"]), "0+4")
        self.same(Run(2, []).text(), "")

    def test_refused_size_and_text(self):
        for size in NO_SIZE:
            self.refused("BadNumber", "size", Run.from_text, None, size)
            self.refused("BadNumber", "size", Run.from_text, "0<9", size)
        for text in (None, 3, b"0<1", ["0<1"], ("0<1",), True):
            self.refused("BadMark", -1, Run.from_text, text, 3)

    def test_refused_words(self):
        words = ("", "0", "0<", "<1", "0<1<", "0-1", "0>1", "0 1", "a<1", "0+b", "0<0", "0<3", "3+0", "00<1", "0<01",
                 "-1<0", "0<1\n", "\n0<1", "0<1\t", "0++1", "0<+1", "1", "take", "<<<", "\u0661<0", "0<\u00b2",
                 "\uff11<0", "0<1,1<2", "0=1")
        for word in words:
            if word not in ("", "0 1"):
                self.refused("BadMark", 0, Run.from_text, word, 3)
            self.refused("BadMark", 1, Run.from_text, f"0<1 {word} 9<9", 3)
            self.refused("BadMark", 2, Run.from_text, f"0<1 1+2 {word}", 3)
        self.refused("BadMark", 0, Run.from_text, " ", 3)
        self.refused("BadMark", 0, Run.from_text, " 0<1", 3)
        self.refused("BadMark", 1, Run.from_text, "0<1 ", 3)
        self.refused("BadMark", 1, Run.from_text, "0<1  0<1", 3)
        self.refused("BadMark", 0, Run.from_text, "0<2", 2)


class Runs(Checks):
    def test_attributes(self):
        marks = [[0, 1, "take"], (2, 1, "call")]
        run = Run(3, marks)
        marks[0][1] = 2
        marks.append(None)
        self.same(run.size, 3)
        self.same(run.marks, ((0, 1, "take"), (2, 1, "call")))
        self.same(list(run), [(0, 1, "take"), (2, 1, "call")])
        self.same(len(run), 2)

    def test_iterated_in_order(self):
        for size, marks in rows():
            run = Run(size, marks)
            self.same(list(run), marks)
            self.same(tuple(run), run.marks)
            self.same(len(run), len(marks))

    def test_refused(self):
        for size in NO_SIZE:
            self.refused("BadNumber", "size", Run, size, None)
        for marks, at in ((None, -1), (3, -1), ("0<1", -1), ([None], 0), ([(0, 1, "take"), (0, 2, "take")], 1),
                          ([(0, 1, "take"), (1, 1, "call"), None], 1)):
            self.refused("BadMark", at, Run, 2, marks)

    def test_never_changes(self):
        run = Run(3, some_marks(3, 9, 9))
        shown = (run.marks, run.table, run.jury, run.text())
        (run + run, run & (0, 1), run.ends([1, 2, 3]), run == run, run.back([2, 0]), list(run))
        self.assertEqual((run.marks, run.table, run.jury, run.text()), shown)


if __name__ == "__main__":
    unittest.main()
