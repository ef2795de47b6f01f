"""Points 50 to 58, of columns by value."""

import unittest

from column_checks import GREAT, ColumnChecks, ColumnTests, rows_within
from runmarks.byvalue import ByValue
from runmarks.columns import Column


class ByValueColumns(ColumnTests, ColumnChecks):
    sizes = (0, 1, 7, 999)

    def new(self, size):
        return ByValue(size)

    def numbers_in(self, value):
        return [value]

    def touched(self, numbers, low, high):
        return [number for number in numbers if low <= number <= high]

    def known(self, here, low, high):
        met = rows_within(here, low, high)
        if not met:
            return "none"
        return "all" if len(met) == len(here) else "some"

    def test_stands_under_column(self):
        self.assertTrue(issubclass(ByValue, Column))

    def test_tops(self):
        for top in (0, 1, 500, 999):
            self.same(ByValue(top).top(), top)

    def test_told_by_hand(self):
        column = self.made(9, {300: 4, 5: 0, 6: 9, 7: 4})
        self.assertEqual(column.sets(), [
            (0, [(0, "list", [5])]), (4, [(0, "list", [7]), (1, "list", [44])]), (9, [(0, "list", [6])]),
        ])
        self.assertEqual((column.numbers_at(0), column.numbers_at(1), column.numbers_at(2)), ([0, 4, 9], [4], []))
        self.assertEqual(column.touched_at(0, 1, 9), [4, 9])
        self.assertEqual(column.touched_at(0, -GREAT, 3), [0])
        self.assertEqual((column.touched_at(0, 5, 8), column.touched_at(0, 9, 0)), ([], []))
        self.assertEqual(column.word_at(0, 0, 4), 2 ** 5 + 2 ** 7)

    def test_known_at_its_edges(self):
        column = self.made(9, {5: 2, 6: 4, 7: 4, 300: 9})
        asked = ((0, 1), (3, 3), (5, 9), (2, 1), (0, 2), (2, 3), (4, 4), (2, 4), (0, 9), (-GREAT, GREAT), (GREAT, -GREAT))
        wanted = ["none", "none", "none", "none", "some", "some", "some", "all", "all", "all", "none"]
        self.assertEqual([column.known_at(0, low, high) for low, high in asked], wanted)
        self.assertEqual(column.known_at(7, 0, 9), "none")
        self.assertEqual((column.known_at(1, 9, 9), column.known_at(1, 0, 8)), ("all", "none"))


if __name__ == "__main__":
    unittest.main()
