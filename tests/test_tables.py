"""Points 80 to 86: tables."""

import random
import unittest

from examples import NO_NUMBERS, NO_WHOLE, MarksChecks
from plain_tables import PlainTable, drawn_columns, drawn_row, drawn_row_values
from runmarks.better import asked
from runmarks.bybits import ByBits
from runmarks.byvalue import ByValue
from runmarks.errors import BadColumn, BadText, BadValue, NoColumn, NoNumber, NoRow, RowThere
from runmarks.tables import Table

COLUMNS = [("a", "values", 9), ("b", "bits", 3)]
ROWS = {3: [1, 0], 4: [2, 5], 9: [2, 7], 512: [4, 4], 65535: [0, 0]}


class Tables(MarksChecks):
    def table(self):
        table = Table(COLUMNS)
        for row, values in ROWS.items():
            table.put(row, values)
        return table

    def plain(self, columns=COLUMNS, rows=ROWS):
        plain = PlainTable(columns)
        plain.values = dict(rows)
        return plain

    def assert_table(self, table, plain):
        self.assertEqual(table.told(), plain.told())
        self.assert_marks(table.rows(), plain.values)
        self.assertEqual(table.names(), plain.names())
        for row, values in list(plain.values.items())[:20]:
            self.assertEqual(table.row_values(row), values)

    def assert_rows(self, table, rows):
        self.assert_table(table, self.plain(rows=rows))


class Made(Tables):
    """Point 80."""

    def refuse(self, columns):
        with self.assertRaises(BadColumn):
            Table(columns)

    def test_how_many(self):
        names = ("a", "b", "c", "d", "e", "f", "g")
        for many in range(1, 7):
            table = Table([(name, "values", 3) for name in names[:many]])
            self.assertEqual(table.names(), list(names[:many]))
            self.assert_marks(table.rows(), [])
            self.assertEqual(table.told(), [("", 0, [])])
        self.refuse([])
        self.refuse([(name, "values", 3) for name in names])

    def test_names(self):
        for name in ("", "abcdefghi", "A", "a1", "and", "or", "not", "all", "none", "is", "from", "to", "a b", "\u00e4"):
            self.refuse([(name, "values", 3)])
            self.refuse([("a", "bits", 3), (name, "values", 3)])
        for second in (("a", "values", 3), ("a", "bits", 3)):
            self.refuse([("a", "values", 3), second])
            self.refuse([("a", "values", 3), ("b", "bits", 3), second])

    def test_kinds(self):
        for kind in ("", "value", "bit", "Values", "BITS", "list", "values "):
            for size in (1, 3, 0):
                self.refuse([("a", kind, size)])
                self.refuse([("b", "bits", 3), ("a", kind, size)])

    def test_sizes(self):
        for size in (0, 1, 40, 999):
            self.assertEqual(Table([("a", "values", size)]).column_of("a").top(), size)
        for size in (1, 2, 40):
            self.assertEqual(Table([("a", "bits", size)]).column_of("a").top(), 2 ** size - 1)
        for size in NO_WHOLE + (-1, 1000, 10 ** 99, -(10 ** 99)):
            self.refuse([("a", "values", size)])
        for size in NO_WHOLE + (-1, 0, 41, 999, 10 ** 99):
            self.refuse([("a", "bits", size)])
            self.refuse([("b", "bits", 3), ("a", "bits", size)])

    def test_the_list_handed_in(self):
        columns = [("a", "values", 9), ("b", "bits", 3)]
        table = Table(columns)
        columns.append(("c", "values", 1))
        columns[0] = ("z", "bits", 1)
        self.assertEqual(table.names(), ["a", "b"])
        table.put(1, [9, 7])
        self.assertEqual(columns, [("z", "bits", 1), ("b", "bits", 3), ("c", "values", 1)])


class Deeds(Tables):
    """Points 81, 82, 83."""

    def test_put(self):
        self.assert_rows(self.table(), ROWS)
        table = Table(COLUMNS)
        for row in (0, 65535):
            table.put(row, [9, 7])
            self.assertEqual(table.row_values(row), [9, 7])

    def test_put_refused(self):
        table = self.table()
        for row in NO_NUMBERS:
            for values in ([1, 1], [], [99, 99], [None, True]):
                with self.assertRaises(NoNumber):
                    table.put(row, values)
        for row in ROWS:
            for values in ([1, 1], [], [99, 99], [1, 1, 1], [None, True]):
                with self.assertRaises(RowThere):
                    table.put(row, values)
        bad = [[], [1], [1, 1, 1], [10, 1], [1, 8], [-1, 1], [1, -1], [10 ** 99, 1], [1, -(10 ** 99)]]
        for thing in NO_WHOLE:
            bad += [[thing, 1], [1, thing]]
        for values in bad:
            with self.assertRaises(BadValue):
                table.put(7, values)
        self.assert_rows(table, ROWS)

    def test_take_and_row_values(self):
        table = self.table()
        self.assertEqual(table.row_values(9), [2, 7])
        self.assertEqual(table.take(9), [2, 7])
        self.assert_rows(table, {row: ROWS[row] for row in ROWS if row != 9})
        table.put(9, [0, 1])
        self.assertEqual(table.row_values(9), [0, 1])
        for row in list(ROWS):
            table.take(row)
        self.assert_rows(table, {})

    def test_take_and_row_values_refused(self):
        table = self.table()
        for deed in (table.take, table.row_values):
            for row in NO_NUMBERS:
                with self.assertRaises(NoNumber):
                    deed(row)
            for row in (0, 5, 513, 65534):
                with self.assertRaises(NoRow):
                    deed(row)
        self.assert_rows(table, ROWS)

    def test_change(self):
        table = self.table()
        table.change(9, "a", 9)
        table.change(9, "b", 0)
        table.change(3, "a", 1)
        self.assert_rows(table, {**ROWS, 9: [9, 0]})

    def test_change_refused(self):
        table = self.table()
        bad = NO_WHOLE + (-1, 10, 10 ** 99)
        for row in NO_NUMBERS:
            for name in ("a", "zoo"):
                for value in (1, None, 99):
                    with self.assertRaises(NoNumber):
                        table.change(row, name, value)
        for name in ("a", "zoo", ""):
            for value in (1, None, 99):
                with self.assertRaises(NoRow):
                    table.change(5, name, value)
        for name in ("zoo", "", "A", "a ", "not", "two words"):
            for value in (1, None, 99):
                with self.assertRaises(NoColumn) as caught:
                    table.change(9, name, value)
                self.same(caught.exception.name, name)
        for value in bad:
            for name in ("a", "b"):
                with self.assertRaises(BadValue):
                    table.change(9, name, value)
        with self.assertRaises(BadValue):
            table.change(9, "b", 8)
        self.assert_rows(table, ROWS)

    def test_lists_handed_in_and_told(self):
        table, values = Table(COLUMNS), [1, 2]
        table.put(5, values)
        values[0] = 9
        values.append(7)
        self.assertEqual(table.row_values(5), [1, 2])
        table.row_values(5).append(9)
        table.names().append("z")
        told = table.told()
        told[0][2][0][2].append(9)
        told[1][2].append(9)
        told.append(9)
        self.assert_rows(table, {5: [1, 2]})
        table.put(6, [1, 2])
        table.take(6).append(5)
        self.assert_rows(table, {5: [1, 2]})

    def test_drawn_deeds(self):
        source = random.Random(81)
        for k in range(30):
            columns = drawn_columns(source)
            table, plain = Table(columns), PlainTable(columns)
            for deed in range(60):
                self.draw_deed(source, table, plain)
            self.assert_table(table, plain)

    def draw_deed(self, source, table, plain):
        row, what = drawn_row(source), source.random()
        if what < 0.55:
            values = drawn_row_values(source, plain.tops())
            if row in plain.values:
                with self.assertRaises(RowThere):
                    table.put(row, values)
            else:
                table.put(row, values)
                plain.values[row] = values
        elif what < 0.7:
            row = source.choice(list(plain.values) + [row])
            if row in plain.values:
                self.assertEqual(table.take(row), plain.values.pop(row))
            else:
                with self.assertRaises(NoRow):
                    table.take(row)
        elif what < 0.97 and plain.values:
            row, at = source.choice(list(plain.values)), source.randrange(len(plain.columns))
            value = drawn_row_values(source, plain.tops())[at]
            table.change(row, plain.names()[at], value)
            plain.values[row] = plain.values[row][:at] + [value] + plain.values[row][at + 1:]
        else:
            self.assertEqual(table.renumber(), plain.renumber())


class Told(Tables):
    """Points 84, 85, 86."""

    def test_by_hand(self):
        self.assertEqual(self.table().told(), [
            ("", 0, [(0, "list", [3, 4, 9]), (2, "list", [0]), (255, "list", [255])]),
            ("a", 0, [(255, "list", [255])]), ("a", 1, [(0, "list", [3])]), ("a", 2, [(0, "list", [4, 9])]),
            ("a", 4, [(2, "list", [0])]),
            ("b", 0, [(0, "list", [4, 9])]), ("b", 1, [(0, "list", [9])]), ("b", 2, [(0, "list", [4, 9]), (2, "list", [0])]),
        ])

    def test_alike_by_other_deeds(self):
        source = random.Random(84)
        for k in range(20):
            columns = drawn_columns(source)
            plain = PlainTable(columns)
            for row in {drawn_row(source) for draw in range(25)}:
                plain.values[row] = drawn_row_values(source, plain.tops())
            at_once, by_deeds = Table(columns), Table(columns)
            for row, values in plain.values.items():
                at_once.put(row, values)
            order = list(plain.values) + [17, 300, 4000]
            source.shuffle(order)
            for row in order:
                by_deeds.put(row, drawn_row_values(source, plain.tops()))
            for row in order:
                if row not in plain.values:
                    by_deeds.take(row)
                    continue
                for name, value in zip(plain.names(), plain.values[row]):
                    by_deeds.change(row, name, value)
            self.assertEqual(at_once.told(), by_deeds.told())
            self.assert_table(by_deeds, plain)

    def test_renumber(self):
        table = self.table()
        self.assertEqual(table.renumber(), [3, 4, 9, 512, 65535])
        wanted = {0: [1, 0], 1: [2, 5], 2: [2, 7], 3: [4, 4], 4: [0, 0]}
        self.assert_rows(table, wanted)
        self.assertEqual(table.renumber(), [0, 1, 2, 3, 4])
        self.assert_rows(table, wanted)
        table.take(1)
        table.put(40, [9, 1])
        old = table.renumber()
        self.assertEqual(old, [0, 2, 3, 4, 40])
        old.append(9)
        self.assert_rows(table, {0: [1, 0], 1: [2, 7], 2: [4, 4], 3: [0, 0], 4: [9, 1]})
        self.assertEqual(Table(COLUMNS).renumber(), [])

    def test_renumber_many(self):
        table = Table(COLUMNS)
        rows = list(range(65535, 0, -131))[:500]
        for row in rows:
            table.put(row, [row % 10, row % 8])
        self.assertEqual(table.renumber(), sorted(rows))
        self.assert_rows(table, {k: [row % 10, row % 8] for k, row in enumerate(sorted(rows))})

    def test_columns_told(self):
        table = self.table()
        for name, made in (("a", ByValue), ("b", ByBits)):
            column = table.column_of(name)
            self.assertIs(type(column), made)
            self.assertIs(type(table.column_copies()[name]), made)
            self.assertEqual(column.sets(), [(n, told) for of, n, told in table.told() if of == name])
            self.assert_marks(column.rows(), ROWS)
        self.assertEqual(list(table.column_copies()), ["a", "b"])
        for name in ("", "c", "A", "not", "two words"):
            with self.assertRaises(NoColumn) as caught:
                table.column_of(name)
            self.same(caught.exception.name, name)

    def test_what_is_told_may_be_changed(self):
        table = self.table()
        table.rows().put_span(0, 1000)
        table.column_of("a").put(3, 9)
        copies = table.column_copies()
        copies["b"].take(9)
        copies["a"].put(77, 3)
        copies.pop("a")
        answer, touches = table.ask("a is 2")
        answer.put(5)
        touches.append(9)
        self.assert_rows(table, ROWS)
        self.assertEqual(list(table.column_copies()), ["a", "b"])

    def test_later_deeds_change_nothing_that_was_told(self):
        table = self.table()
        rows, one, copies = table.rows(), table.column_of("a"), table.column_copies()
        before = [one.sets(), copies["a"].sets(), copies["b"].sets()]
        answer, touches = table.ask("a from 1 to 2")
        table.take(3)
        table.change(4, "b", 1)
        table.put(6, [1, 1])
        table.renumber()
        self.assert_marks(rows, ROWS)
        self.assertEqual([one.sets(), copies["a"].sets(), copies["b"].sets()], before)
        self.assert_marks(answer, [3, 4, 9])

    def test_ask(self):
        table = self.table()
        for text, rows in (("a is 2", [4, 9]), ("all", list(ROWS)), ("none", []), ("not b from 4 to 7", [3, 65535]),
                           ("a is 2 and b is 5 or a is 0", [4, 65535])):
            answer, touches = table.ask(text)
            self.assert_marks(answer, rows)
            wanted = asked(text, table.column_copies(), table.rows())
            self.assertEqual((answer.told(), touches), (wanted[0].told(), wanted[1]))
        with self.assertRaises(BadText) as caught:
            table.ask("zoo is 1 and")
        self.same(caught.exception.place, 12)
        for empty in (table, Table(COLUMNS)):
            with self.assertRaises(NoColumn) as caught:
                empty.ask("none and zoo is 1")
            self.same(caught.exception.name, "zoo")


if __name__ == "__main__":
    unittest.main()
