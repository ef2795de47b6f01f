"""Points 50 to 58, of columns by bits."""

import random
import unittest

from column_checks import GREAT, ROW_SETS, ColumnChecks, ColumnTests, bits_in
from runmarks.bybits import ByBits
from runmarks.byvalue import ByValue
from runmarks.columns import Column
from runmarks.marks import marks_of


class ByBitsColumns(ColumnTests, ColumnChecks):
    sizes = (1, 2, 5, 40)

    def new(self, size):
        return ByBits(size)

    def numbers_in(self, value):
        return bits_in(value)

    def touched(self, numbers, low, high):
        return numbers

    def known(self, here, low, high):
        if not here or low > high:
            return "none"
        least = sum(2 ** bit for bit in range(40) if all(value >> bit & 1 for value in here.values()))
        most = sum(2 ** bit for bit in range(40) if any(value >> bit & 1 for value in here.values()))
        if high < least or low > most:
            return "none"
        return "all" if low <= least and most <= high else "some"

    def test_stands_under_column(self):
        self.assertTrue(issubclass(ByBits, Column))
        self.assertFalse(issubclass(ByBits, ByValue))
        self.assertFalse(issubclass(ByValue, ByBits))

    def test_tops(self):
        for width in (1, 2, 10, 39, 40):
            self.same(ByBits(width).top(), 2 ** width - 1)

    def test_told_by_hand(self):
        column = self.made(3, {300: 5, 5: 0, 6: 7, 7: 4})
        self.assertEqual(column.sets(), [
            (0, [(0, "list", [6]), (1, "list", [44])]), (1, [(0, "list", [6])]),
            (2, [(0, "list", [6, 7]), (1, "list", [44])]),
        ])
        self.assertEqual((column.numbers_at(0), column.numbers_at(1), column.numbers_at(2)), ([0, 1, 2], [0, 2], []))
        self.assertEqual(column.word_at(0, 0, 4), 2 ** 5 + 2 ** 7)

    def test_a_row_of_value_0_stands_in_no_set(self):
        column = self.made(40, {5: 0, 256: 0})
        self.assertEqual(column.sets(), [])
        self.assert_marks(column.rows(), [5, 256])
        self.same(column.value(5), 0)
        self.assertEqual((column.numbers_at(0), column.touched_at(0, 0, 5)), ([], []))
        self.same(column.word_at(0, 0, 0), 2 ** 5)
        self.assert_marks(column.within(0, 0), [5, 256])
        self.assertEqual((column.known_at(0, 0, 0), column.known_at(0, 1, 9)), ("all", "none"))
        self.assert_end(column.least(marks_of([5])), {5: 0}, 0)
        self.assert_end(column.most(marks_of([5])), {5: 0}, 0)

    def test_known_at_its_edges(self):
        column = self.made(4, {5: 0b0110, 6: 0b0011, 7: 0b0010, 300: 15})
        least, most = 0b0010, 0b0111
        asked = ((0, least - 1), (0, least), (most, 15), (most + 1, 15), (least, most), (least + 1, most),
                 (least, most - 1), (-GREAT, GREAT), (GREAT, -GREAT), (4, 5), (5, 4))
        wanted = ["none", "some", "some", "none", "all", "some", "some", "all", "none", "some", "none"]
        self.assertEqual([column.known_at(0, low, high) for low, high in asked], wanted)
        self.assertEqual((column.known_at(9, 0, 15), column.known_at(1, 15, 15)), ("none", "all"))

    def test_touched_whatever_low_and_high_are(self):
        column = self.made(4, {5: 0b0110, 6: 0b0011})
        for low, high in ((0, 15), (9, 3), (-GREAT, -5), (GREAT, GREAT), (14, 14)):
            self.assertEqual(column.touched_at(0, low, high), [0, 1, 2])
            self.assertEqual(column.touched_at(1, low, high), [])

    def test_like_a_column_by_value(self):
        source = random.Random(3)
        for rows in ROW_SETS:
            values = {row: source.choice((0, 511, source.randrange(512))) for row in rows}
            bits, by_value = self.made(9, values), ByValue(511)
            for row in rows:
                by_value.put(row, values[row])
            asked = marks_of(rows[::2] + [65535])
            self.assertEqual(bits.total(asked), by_value.total(asked))
            for of_bits, of_values in ((bits.least(asked), by_value.least(asked)), (bits.most(asked), by_value.most(asked))):
                self.assertEqual(of_bits and (of_bits[0], of_bits[1].told()),
                                 of_values and (of_values[0], of_values[1].told()))
            self.assertEqual(bits.rows().told(), by_value.rows().told())
            for low, high in self.bounds(511):
                self.assertEqual(bits.within(low, high).told(), by_value.within(low, high).told())
                for key in (0, 1, 255):
                    self.assertEqual(bits.word_at(key, low, high), by_value.word_at(key, low, high))
            self.assertEqual([bits.value(row) for row in rows], [by_value.value(row) for row in rows])


if __name__ == "__main__":
    unittest.main()
