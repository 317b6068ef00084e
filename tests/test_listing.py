"""The interface of listing.py: texts of rows by lots and of worlds."""

import unittest
from fractions import Fraction

from copyrates.listing import rows_text, world_from, world_text
from copyrates.wins import win_row
from copyrates.worlds import World
from tests.kit import BIG, NO_WHOLE, Checks, lots, ring_takes, some_worlds, table
from tests.oddkit import FAR, NO_FRACTION, calling_worlds, worths

TWO = World([[0, 1], [2, 0]], calls=[[0, 0], [1, 0]])
TEXT = "0 <- 1: take 1, call 0\n1 <- 0: take 2, call 1"


class Rows(Checks):
    def check(self, row):
        text = rows_text(row)
        self.assertIs(type(text), str)
        lines = text.split("\n")
        size = len(row).bit_length() - 1
        self.assertEqual(len(lines), 1 << size)
        names = ["{" + ",".join(map(str, lot)) + "}" for lot in lots(size)]
        told = [str(worth) for worth in worths(row)]
        wide, far = max(map(len, names)), max(map(len, told))
        self.assertEqual(lines, [name.ljust(wide) + " " + worth.rjust(far) for name, worth in zip(names, told)])
        self.assertEqual({len(line) for line in lines}, {wide + 1 + far})

    def test_rows(self):
        for world in calling_worlds((2, 3, 4, 5)):
            self.check(win_row(world))
        self.check([(4, 6), [-3, 9], 0, (7, 7)])
        self.check([(FAR, FAR - 1)] + [1] * 7)
        self.check([Fraction(k - 9, 4).as_integer_ratio() for k in range(32)])
        self.check(tuple((k, 2) for k in range(16)))
        self.check([0, 0, 0, 0])

    def test_plain(self):
        self.assertEqual(rows_text([0, (3, 4), (1, 3), 1]), "{}      0\n{0}   3/4\n{1}   1/3\n{0,1}   1")
        self.assertEqual(rows_text([(10, 5), [-6, 8], -12, 0]), "{}       2\n{0}   -3/4\n{1}    -12\n{0,1}    0")

    def test_refused(self):
        for row in (None, 3, "0000", (), [0, 1], [0] * 3, [0] * 5, [0] * 64, {0: 0, 1: 0, 2: 0, 3: 0}, range(4)):
            self.refused("BadFraction", "row", rows_text, row)
        for entry in NO_FRACTION:
            for at in (0, 3):
                self.refused("BadFraction", "row", rows_text, [0] * at + [entry] + [0] * (3 - at))

    def test_arguments_stay(self):
        row = [0, [6, 8], (1, 3), 1]
        rows_text(row)
        self.assertEqual(row, [0, [6, 8], (1, 3), 1])


class Worlds(Checks):
    def test_text(self):
        self.assertEqual(world_text(TWO), TEXT)
        self.assertEqual(world_text(World([[0] * 6] * 6)), "")
        self.assertEqual(world_text(World([[0, 0, 7], [0, 0, 0], [0, 0, 0]], calls=[[0, 0, BIG], [0] * 3, [0] * 3])),
                         f"0 <- 2: take 7, call {BIG}")
        for world in some_worlds(4, 9, 1):
            wanted = [
                f"{i} <- {j}: take {world.takes[i][j]}, call {world.calls[i][j]}" for i, j in sorted(world.ties())
            ]
            self.assertEqual(world_text(world), "\n".join(wanted))

    def test_read_back(self):
        worlds = calling_worlds((2, 3, 4, 5)) + list(some_worlds(6, 6, 3)) + list(some_worlds(3, 30, 2, zeros=9))
        worlds.extend([World([[0] * 6] * 6), World([[0, 0], [0, 0]]), World(ring_takes(6))])
        worlds.append(World(table(6, lambda i, j: BIG - i), calls=table(6, lambda i, j: BIG * (i < j))))
        for world in worlds:
            made = world_from(world_text(world), world.size)
            self.assertIsInstance(made, World)
            self.told((made.takes, made.calls))
            self.assertTrue(made == world)
            if world.size < 6:
                bigger = world_from(world_text(world), 6)
                self.assertEqual((bigger.size, world_text(bigger)), (6, world_text(world)))

    def test_size(self):
        for size in NO_WHOLE + (0, 1, 7, -2):
            self.refused("BadNumber", "size", world_from, None, size)
            self.refused("BadNumber", "size", world_from, "", size)
        # The same ties in fewer places.
        self.refused("BadTable", 0, world_from, "0 <- 2: take 1, call 0", 2)
        self.refused("BadTable", 1, world_from, "0 <- 1: take 1, call 0\n3 <- 1: take 1, call 0", 3)

    def test_no_text(self):
        for text in (None, 3, True, ("a",), [], b"", ["0 <- 1: take 1, call 0"]):
            self.refused("BadTable", -1, world_from, text, 2)

    def test_wrong_lines(self):
        for line in (
            "", " ", "0", "0 <- 1", "0 <- 1: take 1", "0 <- 1: take 1,", "0 <- 1: take 1, call", "0 <- 1: take 1, call ",
            "0 <- 1: take 0, call 0", "0 <- 1: take 01, call 0", "0 <- 1: take 1, call 00", "0 <- 1: take 1, call 01",
            "00 <- 1: take 1, call 0", "0 <- 01: take 1, call 0", "0  <- 1: take 1, call 0", "0 <-  1: take 1, call 0",
            "0 <- 1:  take 1, call 0", "0 <- 1: take  1, call 0", "0 <- 1: take 1,  call 0", "0 <- 1: take 1, call  0",
            " 0 <- 1: take 1, call 0", "0 <- 1: take 1, call 0 ", "0 <- 1: take 1 call 0", "0 <- 1 take 1, call 0",
            "0 -> 1: take 1, call 0", "0 <- 1: Take 1, call 0", "0 <- 1: call 0, take 1", "0 <- 0: take 1, call 0",
            "0 <- 2: take 1, call 0", "2 <- 1: take 1, call 0", "-1 <- 1: take 1, call 0", "0 <- 1: take -1, call 0",
            "0 <- 1: take 1, call -1", "0 <- 1: take +1, call 0", "0 <- 1: take 1.0, call 0", "0 <- 1: take 1_0, call 0",
            "0 <- 1: take x, call 0", "0 <- 1: take 1, call 0,", "0: <- 1: take 1, call 0", "0, <- 1: take 1, call 0",
            "0 <- 1: take 1, call 0\r", "0 <- 1: take 1, call 0\t", "0\t<- 1: take 1, call 0", "0 <- 1: take \u0661, call 0",
            "0 <- 1: take \u00b2, call 0", "0 <- 1:: take 1, call 0", "0 <- 1: take 1, call 0 0", "1<-0: take 1, call 0",
            "0 <- 1: take None, call 0", "0 <- 1: take 1, call None", "None <- 1: take 1, call 0", "0 <- None: take 1, call 0",
            "0 <- 1: take 1,0, call 0", "0 <- 1: take , call 0", "0 <- : take 1, call 0", "<- 0 1: take 1, call 0",
        ):
            if line:
                self.refused("BadTable", 0, world_from, line, 2)
                self.refused("BadTable", 0, world_from, line + "\n" + TEXT, 2)
            self.refused("BadTable", 1, world_from, "0 <- 1: take 1, call 0\n" + line, 2)
            self.refused("BadTable", 2, world_from, TEXT + "\n" + line, 2)

    def test_line_feeds(self):
        self.refused("BadTable", 0, world_from, "\n", 2)
        self.refused("BadTable", 0, world_from, "\n" + TEXT, 2)
        self.refused("BadTable", 2, world_from, TEXT + "\n", 2)
        self.refused("BadTable", 1, world_from, TEXT.replace("\n", "\n\n"), 2)
        self.refused("BadTable", 0, world_from, TEXT.replace("\n", "\r\n"), 2)
        self.refused("BadTable", 0, world_from, TEXT.replace("\n", "\x0b"), 2)
        self.refused("BadTable", 0, world_from, TEXT.replace("\n", " "), 2)

    def test_order(self):
        lines = ["0 <- 1: take 1, call 0", "0 <- 2: take 3, call 3", "1 <- 0: take 2, call 1", "2 <- 0: take 9, call 9"]
        self.assertEqual(world_from("\n".join(lines), 3).ties(), ((0, 1), (0, 2), (1, 0), (2, 0)))
        for at in range(1, 4):
            swapped = lines[:at - 1] + [lines[at], lines[at - 1]] + lines[at + 1:]
            self.refused("BadTable", at, world_from, "\n".join(swapped), 3)
            twice = lines[:at] + [lines[at - 1].replace("take ", "take 1")] + lines[at:]
            self.refused("BadTable", at, world_from, "\n".join(twice), 3)
        # The first wrong line is told, whichever way it is wrong.
        self.refused("BadTable", 1, world_from, "\n".join([lines[1], lines[0], "no line"]), 3)
        self.refused("BadTable", 0, world_from, "\n".join(["no line", lines[1], lines[0]]), 3)


if __name__ == "__main__":
    unittest.main()
