"""What the tests ask of columns of both kinds, with plain dicts of values beside them."""

import random

from examples import NO_NUMBERS, NO_WHOLE, MarksChecks, places_by_key, plain_told, plain_word
from runmarks.errors import BadValue, NoNumber
from runmarks.marks import Marks, marks_of

GREAT = 10 ** 99
ROW_SETS = (
    [], [0], [65535], [0, 255, 256, 65280, 65535], [3, 4, 5, 6, 7], list(range(0, 500)), list(range(0, 65536, 1000)),
    [10, 20, 30, 300, 310, 65000], list(range(200, 300)),
)


def rows_within(values, low, high):
    return sorted(row for row, value in values.items() if low <= value <= high)


def bits_in(value):
    return [bit for bit in range(40) if value >> bit & 1]


class ColumnChecks(MarksChecks):
    """numbers_in tells, for a value, the numbers of the sets in which a row of this value stands."""

    def made(self, size, values):
        column = self.new(size)
        for row, value in values.items():
            column.put(row, value)
        return column

    def drawn(self, seed):
        """Columns of all sizes with rows of all shapes: tuples (size, values)."""
        source = random.Random(seed)
        drawn = []
        for rows in ROW_SETS:
            for size in self.sizes:
                top = self.new(size).top()
                few = [0, top, top // 2, min(1, top)]
                drawn.append((size, {row: source.randint(0, top) for row in rows}))
                drawn.append((size, {row: source.choice(few) for row in rows}))
        return drawn

    def bounds(self, top):
        some = (-1, 0, 1, 2, top // 3, top // 2, top - 1, top, top + 1)
        return [(low, high) for low in some for high in some[::2]] + [(-GREAT, GREAT), (GREAT, -GREAT), (-GREAT, top // 2)]

    def plain_sets(self, values):
        numbers = sorted({number for value in values.values() for number in self.numbers_in(value)})
        return [(number, plain_told([row for row in values if number in self.numbers_in(values[row])]))
                for number in numbers]

    def assert_column(self, column, size, values):
        """All that hangs on the values alone."""
        self.assertIs(type(column), type(self.new(size)))
        self.same(column.top(), self.new(size).top())
        self.assert_marks(column.rows(), values)
        self.assertEqual(column.sets(), self.plain_sets(values))
        for row in list(values)[:40] + [0, 1, 255, 256, 300, 65534, 65535]:
            self.same(column.value(row), values.get(row))

    def assert_refusals(self, size):
        top = self.new(size).top()
        values = {0: 0, 7: top, 300: top // 2}
        column = self.made(size, values)
        for row in NO_NUMBERS:
            for value in (0, top, -1, None, top + 1):
                with self.assertRaises(NoNumber):
                    column.put(row, value)
            with self.assertRaises(NoNumber):
                column.take(row)
            with self.assertRaises(NoNumber):
                column.value(row)
        for value in NO_WHOLE + (-1, top + 1, GREAT, -GREAT):
            for row in (0, 7, 8, 65535):
                with self.assertRaises(BadValue):
                    column.put(row, value)
        self.assert_column(column, size, values)


class ColumnTests:
    """Tests that columns of either kind must stand: for a class under ColumnChecks."""

    def test_put_put_again_taken_told(self):
        for size in self.sizes:
            top = self.new(size).top()
            column = self.new(size)
            self.assert_column(column, size, {})
            for row in (0, 255, 256, 65535):
                self.assertIs(column.take(row), False)
                self.assertIsNone(column.put(row, top))
                self.assert_column(column, size, {row: top})
                self.assertIsNone(column.put(row, 0))
                self.assert_column(column, size, {row: 0})
                self.assertIsNone(column.put(row, 0))
                self.assert_column(column, size, {row: 0})
                self.assertIs(column.take(row), True)
                self.assertIs(column.take(row), False)
                self.assertIsNone(column.value(row))
                self.assert_column(column, size, {})

    def test_rows_of_deeds(self):
        source = random.Random(51)
        for size in self.sizes:
            top, column, values = self.new(size).top(), self.new(size), {}
            for k in range(400):
                row = source.choice((source.randrange(20), 256 * source.randrange(256), source.randrange(65536)))
                if source.random() < 0.6:
                    values[row] = source.choice((0, top, source.randint(0, top), source.randint(0, min(top, 5))))
                    column.put(row, values[row])
                else:
                    row = source.choice([row] + list(values))
                    self.assertIs(column.take(row), row in values)
                    values.pop(row, None)
                if k % 40 == 0:
                    self.assert_column(column, size, values)
            self.assert_column(column, size, values)

    def test_refusals(self):
        for size in self.sizes:
            self.assert_refusals(size)

    def test_within(self):
        for size, values in self.drawn(52):
            column = self.made(size, values)
            for low, high in self.bounds(column.top()):
                self.assert_marks(column.within(low, high), rows_within(values, low, high))
            self.assert_marks(column.within(0, column.top()), values)
            self.assert_marks(column.within(column.top(), 0), values if column.top() == 0 else [])

    def test_total_least_most(self):
        for size, values in self.drawn(53):
            column = self.made(size, values)
            for asked in ([], list(values), list(values)[::2], list(values)[:1], list(range(400)), [9, 65535, 2000]):
                rows = marks_of(asked)
                met = {row: values[row] for row in asked if row in values}
                self.same(column.total(rows), sum(met.values()))
                self.assert_end(column.least(rows), met, min(met.values(), default=None))
                self.assert_end(column.most(rows), met, max(met.values(), default=None))
                self.assert_marks(rows, asked)
            self.assert_column(column, size, values)

    def assert_end(self, told, met, end):
        if end is None:
            self.assertIsNone(told)
        else:
            self.assertIs(type(told), tuple)
            self.same(told[0], end)
            self.assert_marks(told[1], [row for row in met if met[row] == end])

    def test_of_the_empty_set_and_of_no_values(self):
        for size in self.sizes:
            for values, rows in (({}, [1, 2]), ({1: 0}, []), ({1: 0}, [2, 3]), ({}, [])):
                column = self.made(size, values)
                self.same(column.total(marks_of(rows)), 0)
                self.assertIsNone(column.least(marks_of(rows)))
                self.assertIsNone(column.most(marks_of(rows)))

    def test_sets_told_may_be_changed(self):
        for size in self.sizes:
            top = self.new(size).top()
            values = {3: top, 4: top, 300: 0}
            column = self.made(size, values)
            everything = marks_of([3, 4, 300])
            for told in (column.rows(), column.within(0, top), column.within(top, top),
                         column.least(everything)[1], column.most(everything)[1]):
                told.put_span(0, 600)
                told.take(4)
            for told in (column.sets(), column.numbers_at(0), column.touched_at(0, 0, top)):
                told.append(9)
                told[0] = 9
            for number, told in column.sets():
                told.append(9)
                told[0][2].append(9)
            self.assert_column(column, size, values)
            self.assert_marks(column.within(top, top), rows_within(values, top, top))
            self.assert_marks(everything, [3, 4, 300])

    def test_at_a_key(self):
        for size, values in self.drawn(55)[::2]:
            column, by_key = self.made(size, values), places_by_key(values)
            for key in sorted({0, 1, 2, 100, 255} | set(list(by_key)[:6])):
                here = {key * 256 + place: values[key * 256 + place] for place in by_key.get(key, [])}
                numbers = sorted({number for value in here.values() for number in self.numbers_in(value)})
                self.assertEqual(column.numbers_at(key), numbers)
                for low, high in self.bounds(column.top()):
                    met = rows_within(here, low, high)
                    self.assertEqual(column.touched_at(key, low, high), self.touched(numbers, low, high))
                    self.same(column.word_at(key, low, high), plain_word([row % 256 for row in met]))
                    told = column.known_at(key, low, high)
                    self.same(told, self.known(here, low, high))
                    self.assertTrue(told != "none" or not met)
                    self.assertTrue(told != "all" or len(met) == len(here))

    def test_behind_what_was_taken(self):
        for size in self.sizes:
            top = self.new(size).top()
            column = self.made(size, {5: top, 6: top, 600: top})
            column.take(5)
            self.assertEqual(column.numbers_at(0), self.numbers_in(top))
            column.put(6, 0)
            self.assertEqual(column.numbers_at(0), self.numbers_in(0))
            column.take(6)
            self.assertEqual((column.numbers_at(0), column.touched_at(0, 0, top), column.word_at(0, 0, top)), ([], [], 0))
            self.assertEqual(column.known_at(0, 0, top), "none")
            self.assertEqual(column.numbers_at(2), self.numbers_in(top))

    def test_a_copy_and_its_source(self):
        for size, values in self.drawn(58):
            column = self.made(size, values)
            copy = column.copied()
            self.assert_column(copy, size, values)
            top = column.top()
            changed = {**values, 3: top, 65535: 0}
            changed.pop(0, None)
            copy.put(3, top)
            copy.put(65535, 0)
            copy.take(0)
            self.assert_column(copy, size, changed)
            self.assert_column(column, size, values)
            for row in values:
                column.take(row)
            column.put(9, top)
            self.assert_column(copy, size, changed)
            self.assertEqual(copy.numbers_at(0), sorted(
                {number for row in changed if row < 256 for number in self.numbers_in(changed[row])}))
            self.assert_column(column, size, {9: top})

    def test_renumbered(self):
        for size, values in self.drawn(59):
            column = self.made(size, values)
            for more in ([], [1, 2, 8, 300], list(range(0, 65536, 777))):
                rows = sorted({*values, *more})
                marks = marks_of(rows)
                told = column.renumbered(marks)
                wanted = {rows.index(row): values[row] for row in values}
                self.assert_column(told, size, wanted)
                self.assert_column(column, size, values)
                self.assert_marks(marks, rows)
                told.put(2, 0)
                told.take(0)
                self.assert_column(column, size, values)
                told = column.renumbered(marks)
                again = column.copied()
                again.put(70, 0)
                self.assert_column(told, size, wanted)

    def test_a_renumbered_column_and_its_source(self):
        for size in self.sizes:
            column = self.made(size, {10: 0, 20: self.new(size).top()})
            told = column.renumbered(marks_of([5, 10, 20]))
            column.take(20)
            column.put(1, 0)
            self.assert_column(told, size, {1: 0, 2: column.top()})
            told.take(1)
            self.assert_column(column, size, {10: 0, 1: 0})
            self.assert_column(self.new(size).renumbered(Marks()), size, {})
