"""Point 2: places and lots."""

import unittest
from itertools import permutations

from copyrates.lots import all_lots, lot_at, lot_of, number_of, rest_of
from tests.kit import NO_WHOLE, Checks, lots, number_of_places

SIZES = (1, 2, 3, 5, 6, 12)
WRONG_SIZES = NO_WHOLE + (0, -1, 13, 100)


class Lots(Checks):
    def test_all_lots_stand_at_their_numbers(self):
        for size in SIZES:
            self.same(all_lots(size), tuple(lots(size)))
        self.same(all_lots(2), ((), (0,), (1,), (0, 1)))

    def test_numbers(self):
        for size in SIZES:
            for lot in lots(size):
                number = number_of_places(lot)
                self.same(number_of(lot, size), number)
                self.same(number_of(list(reversed(lot)), size), number)
                self.same(lot_at(number, size), lot)

    def test_lot_in_any_order(self):
        for lot in lots(5):
            for order in permutations(lot):
                self.same(lot_of(order, 5), lot)
                self.same(lot_of(list(order), 5), lot)

    def test_rest(self):
        for size in SIZES:
            for lot in lots(size):
                rest = tuple(i for i in range(size) if i not in lot)
                self.same(rest_of(lot, size), rest)
                self.same(rest_of(list(reversed(lot)), size), rest)

    def test_lots_of_no_and_all_places(self):
        self.same(lot_of([], 1), ())
        self.same(lot_of([0], 1), (0,))
        self.same(number_of((), 12), 0)
        self.same(number_of(list(range(12)), 12), 4095)
        self.same(rest_of((), 2), (0, 1))
        self.same(rest_of([1, 0], 2), ())

    def test_arguments_stay(self):
        lot = [3, 1]
        for call in (lot_of, number_of, rest_of):
            call(lot, 4)
        self.assertEqual(lot, [3, 1])


class Refused(Checks):
    def test_kind_of_lot(self):
        for call in (lot_of, number_of, rest_of):
            for value in (None, 3, "01", {0: 1}, {0, 1}, range(2), True):
                self.refused("BadLot", None, call, value, 3)

    def test_first_wrong_entry(self):
        for call in (lot_of, number_of, rest_of):
            for entry in NO_WHOLE + (-1, 3, 12):
                self.refused("BadLot", entry, call, [0, entry, 7], 3)
                self.refused("BadLot", entry, call, (entry,), 3)
            self.refused("BadLot", 1, call, [1, 1], 3)
            self.refused("BadLot", 1, call, [2, 1, 0, 1, 5], 3)
            self.refused("BadLot", 5, call, [2, 5, 2], 3)
            self.refused("BadLot", 1, call, (1,), 1)
            self.refused("BadLot", 12, call, (12,), 12)

    def test_size_is_raised_first(self):
        for size in WRONG_SIZES:
            self.refused("BadNumber", "size", all_lots, size)
            for call in (lot_of, number_of, rest_of):
                self.refused("BadNumber", "size", call, None, size)
            self.refused("BadNumber", "size", lot_at, None, size)

    def test_number(self):
        for size in SIZES:
            for number in NO_WHOLE + (-1, 1 << size):
                self.refused("BadNumber", "number", lot_at, number, size)


if __name__ == "__main__":
    unittest.main()
