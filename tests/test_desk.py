"""Points 87 and 88: the desk."""

import random
import unittest

from examples import MarksChecks
from plain_tables import PlainTable
from plain_tapes import plain_tape
from runmarks.asking import read_question
from runmarks.better import asked, better
from runmarks.desk import Desk
from runmarks.errors import BadColumn, BadText, BadValue, NoColumn, NoLine, NoNumber, NoRow, RowThere
from runmarks.plainly import plain_least, plain_rows, plain_total
from runmarks.tables import Table
from runmarks.walks import bound, walked

COLUMNS = [("a", "values", 9), ("b", "bits", 40)]
# The greatest number that figures write; a column of 40 bits goes further.
GREATEST = 10 ** 12 - 1
ROWS = {3: [1, 0], 4: [2, 5], 9: [2, 7], 512: [4, GREATEST], 65535: [0, 0]}


class Desks(MarksChecks):
    def setUp(self):
        self.desk = Desk(COLUMNS)
        for row, (a, b) in ROWS.items():
            self.desk.say(f"put {row} {a} {b}")

    def assert_said(self, line, answer):
        self.same(self.desk.say(line), answer)

    def assert_refused(self, line, error, place=None, name=None):
        with self.assertRaises(error, msg=line) as caught:
            self.desk.say(line)
        self.assertIs(type(caught.exception), error)
        if place is not None:
            self.same(caught.exception.place, place)
        if name is not None:
            self.same(caught.exception.name, name)

    def all_told(self):
        """All that the desk tells of its table."""
        rows = self.desk.say("rows all")
        values = [self.desk.say(f"row {row}") for row in rows.split(" ") if row != "-"]
        return rows, values, [self.desk.say(f"tape {name} {n}") for name in ("a", "b") for n in range(40)]


class Made(Desks):
    def test_columns(self):
        for columns in ([], [("a", "values", 1000)], [("to", "bits", 3)], [("a", "bits", 3)] * 2, [("a", "x", 3)],
                        [("a", "bits", True)], [(name, "bits", 1) for name in "abcdefg"]):
            with self.assertRaises(BadColumn):
                Desk(columns)
        self.assertEqual(Desk([("a", "values", 0)]).say("rows all"), "-")

    def test_two_desks(self):
        other = Desk(COLUMNS)
        other.say("put 1 1 1")
        self.assert_said("count all", "5")
        self.assertEqual(other.say("count all"), "1")


class Lines(Desks):
    """Point 87."""

    def test_put_take_row_change(self):
        self.assert_said("put 70 9 999999999999", "ok")
        self.assert_said("row 70", "9 999999999999")
        self.assert_said("change 70 a 0", "ok")
        self.assert_said("change 70 b 17", "ok")
        self.assert_said("row 70", "0 17")
        self.assert_said("take 70", "0 17")
        self.assert_said("count all", "5")
        self.assert_said("put 0 0 0", "ok")
        self.assert_said("row 0", "0 0")

    def test_renumber(self):
        self.assert_said("renumber", "5")
        self.assert_said("rows all", "0 1 2 3 4")
        self.assert_said("row 3", "4 999999999999")
        self.assertEqual(Desk(COLUMNS).say("renumber"), "0")

    def test_rows_and_count(self):
        for text, rows in (("all", "3 4 9 512 65535"), ("none", "-"), ("a is 2", "4 9"), ("a is 9", "-"),
                           ("not a is 2", "3 512 65535"), ("  a is 2 ", "4 9"), ("(a is 2)and b is 5", "4")):
            self.assert_said("rows " + text, rows)
            self.assert_said("count " + text, str(0 if rows == "-" else len(rows.split(" "))))

    def test_sum_least_most(self):
        self.assert_said("sum a all", "9")
        self.assert_said("sum b a is 2", "12")
        self.assert_said("sum b not none", str(12 + GREATEST))
        self.assert_said("sum a none", "0")
        self.assert_said("least a all", "0: 65535")
        self.assert_said("least b all", "0: 3 65535")
        self.assert_said("most b all", "999999999999: 512")
        self.assert_said("most a a from 1 to 3", "2: 4 9")
        self.assert_said("least a   a from 1 to 3", "1: 3")
        self.assert_said("least a none", "-")
        self.assert_said("most b a is 9", "-")

    def test_better(self):
        self.assert_said("better all", "all")
        self.assert_said("better a from 0 to 9", "all")
        self.assert_said("better a is 10", "none")
        self.assert_said("better a from 5 to 99", "a from 5 to 9")
        self.assert_said("better not not a is 2", "a is 2")
        for text in ("a is 1 and (b is 2 or a is 1)", "not (a is 1 or b is 2)", "b is 1 or b is 2 or b is 3", "a is 1 or a is 2"):
            table = Table(COLUMNS)
            self.assert_said("better " + text, better(read_question(text), table.column_copies()).shown())

    def test_touched(self):
        table = Table(COLUMNS)
        for row, values in ROWS.items():
            table.put(row, values)
        columns, rows = table.column_copies(), table.rows()
        for text in ("all", "none", "a is 2", "b is 5", "a from 1 to 2 and a from 2 to 9", "not (a is 1 or b from 2 to 5)",
                     "b from 9 to 0", "a is 2 or b is 0 or a is 2", "a is 1 and a is 2"):
            question = read_question(text)
            wanted = (len(asked(text, columns, rows)[1]), bound(question, columns, rows), len(walked(question, columns, rows)[1]))
            self.assert_said("touched " + text, " ".join(str(number) for number in wanted))
        self.assert_said("touched all", "0 0 0")
        self.assert_said("touched a from 0 to 9", "0 0 4")
        self.assert_said("touched a is 2 or a is 1", "2 2 2")
        self.assert_said("touched a is 2", "1 1 1")

    def test_tape(self):
        self.assert_said("tape a 2", plain_tape([4, 9]))
        self.assert_said("tape a 0", plain_tape([65535]))
        self.assert_said("tape b 39", plain_tape([512]))
        self.assert_said("tape b 0", plain_tape([4, 9, 512]))
        for line in ("tape a 3", "tape a 10", "tape a 999999999999", "tape b 40", "tape b 70000"):
            self.assert_said(line, "000000000")


class NoLines(Desks):
    """Point 88."""

    def test_another_first_word(self):
        for line in ("", " ", "Rows all", "ROWS all", "show", "putt 1 1 1", " put 7 1 1", "rows\tall", "ro ws", "tapes a 1",
                     "ok", "all", "renumbers", "row5", "sum(a) all", "rows(all)", "  rows all", "count\n"):
            self.assert_refused(line, NoLine)

    def test_more_or_fewer_words(self):
        for line in ("put", "take", "take 3 4", "row", "row 3 4", "change", "change 3", "change 3 a", "change 3 a 1 1",
                     "renumber 1", "renumber ", "renumber all", "tape", "tape a", "tape a 1 1", "rows", "count", "better",
                     "touched", "sum", "least", "most", "sum a", "least a", "most b", "sum zoo", "tape zoo"):
            self.assert_refused(line, NoLine)

    def test_blanks_more(self):
        for line in ("put  7 1 1", "put 7  1 1", "put 7 1 1 ", "put ", "take  3", "take 3 ", "take ", "row  3", "row 3 ",
                     "change  3 a 1", "change 3 a  1", "change 3 a 1 ", "tape  a 1", "tape a  1", "tape a 1 ", "tape a ",
                     "change 3  a 1"):
            self.assert_refused(line, NoLine)

    def test_figures_that_are_none(self):
        for word in ("", "01", "00", "-1", "+1", "1.0", "a", "x", "1000000000000", "\u0661", "1_0", "1\n"):
            for line in (f"put {word} 1 1", f"put 7 {word} 1", f"put 7 1 {word}", f"put 3 {word}", f"put 65536 {word}",
                         f"take {word}", f"row {word}", f"change {word} a 1", f"change 3 a {word}", f"change 70000 zoo {word}",
                         f"tape a {word}", f"tape zoo {word}"):
                self.assert_refused(line, NoLine)

    def test_no_number(self):
        for row in ("65536", "999999999999"):
            for line in (f"put {row} 1 1", f"put {row}", f"put {row} 99 99 99", f"take {row}", f"row {row}", f"change {row} a 1",
                         f"change {row} zoo 99"):
                self.assert_refused(line, NoNumber)

    def test_rows_that_are_there_or_not(self):
        for line in ("put 3 1 1", "put 3", "put 3 99 99 99"):
            self.assert_refused(line, RowThere)
        for line in ("take 5", "row 5", "change 5 a 1", "change 5 zoo 99"):
            self.assert_refused(line, NoRow)

    def test_bad_values(self):
        for line in ("put 7", "put 7 1", "put 7 1 1 1", "put 7 10 1", "change 3 a 10", "put 7 1 999999999999 0",
                     "put 7 999999999999 1"):
            self.assert_refused(line, BadValue)
        desk = Desk([("b", "bits", 39)])
        with self.assertRaises(BadValue):
            desk.say("put 1 " + str(2 ** 39))

    def test_no_column(self):
        for name in ("zoo", "", "A", "not", "all", "5", "(a)"):
            for line in (f"change 3 {name} 1", f"change 3 {name} 99", f"sum {name} all", f"least {name} all", f"most {name} zoo is",
                         f"sum {name} ", f"sum {name} other is 1", f"tape {name} 1", f"tape {name} 99"):
                self.assert_refused(line, NoColumn, name=name)

    def test_bad_text(self):
        for text, place in (("", 0), (" ", 1), ("a", 1), ("a is", 4), ("a is 1 b", 7), ("zoo is 1 and", 12), ("  and", 2)):
            for line in ("rows ", "count ", "better ", "touched ", "sum a ", "least a ", "most b "):
                self.assert_refused(line + text, BadText, place=place)

    def test_a_column_of_the_question(self):
        for line in ("rows ", "count ", "better ", "touched ", "sum a ", "least a ", "most b "):
            self.assert_refused(line + "zoo is 1", NoColumn, name="zoo")
            self.assert_refused(line + "none and (all or yak is 1 and zoo is 2)", NoColumn, name="yak")

    def test_the_order_of_refusals(self):
        self.assert_refused("sum zoo yak is", NoColumn, name="zoo")
        self.assert_refused("sum a yak is", BadText, place=6)
        self.assert_refused("sum a yak is 1", NoColumn, name="yak")
        self.assert_refused("change 3 zoo 01", NoLine)
        self.assert_refused("change 70000 zoo 99", NoNumber)
        self.assert_refused("change 5 zoo 99", NoRow)
        self.assert_refused("change 3 zoo 99", NoColumn, name="zoo")
        self.assert_refused("change 3 a 99", BadValue)
        self.assert_refused("tape zoo x", NoLine)

    def test_a_refused_line_changes_nothing(self):
        before = self.all_told()
        for line in ("put 7 1", "put 7 1 1 1", "put 7 10 1", "put 3 1 1", "put 7 1 x", "take 5", "take 3 ", "change 3 a 10",
                     "change 3 zoo 1", "change 5 a 1", "renumber ", "renumber 1", "rows a is", "sum zoo all", "tape a x",
                     "put 65536 1 1", "take 65536", "better", "nothing", "change 3 a 5 "):
            with self.assertRaises((NoLine, NoNumber, RowThere, NoRow, BadValue, NoColumn, BadText)):
                self.desk.say(line)
            self.assertEqual(self.all_told(), before)

    def test_asking_changes_nothing(self):
        before = self.all_told()
        for line in ("rows a is 2", "count all", "sum b all", "least a all", "most b all", "better a is 2", "touched a is 2",
                     "tape a 2", "row 3"):
            self.desk.say(line)
        self.assertEqual(self.all_told(), before)


class Drawn(Desks):
    """Point 87, with a plain table beside the desk."""

    TEXTS = ("all", "none", "a is {v}", "not a is {v}", "b from 0 to {w}", "a from {v} to 9 and not b is {w}",
             "a is {v} or b from {w} to 99 or a is 0", "not (a from 0 to {v} and b from {w} to 5)")

    def test_lines(self):
        source = random.Random(87)
        for k in range(25):
            self.desk, plain = Desk(COLUMNS), PlainTable(COLUMNS)
            for line in range(40):
                self.deed(source, plain)
                self.question(source, plain)

    def deed(self, source, plain):
        row, a, b = source.choice((source.randrange(20), source.randrange(65536))), source.randrange(10), source.randrange(12)
        if row not in plain.values:
            self.assert_said(f"put {row} {a} {b}", "ok")
            plain.values[row] = [a, b]
        elif source.random() < 0.5:
            self.assert_said(f"take {row}", " ".join(str(value) for value in plain.values.pop(row)))
        else:
            self.assert_said(f"change {row} b {b}", "ok")
            plain.values[row] = [plain.values[row][0], b]
        if source.random() < 0.05:
            self.assert_said("renumber", str(len(plain.renumber())))

    def question(self, source, plain):
        text = source.choice(self.TEXTS).replace("{v}", str(source.randrange(10))).replace("{w}", str(source.randrange(12)))
        question, table, name = read_question(text), plain.by_names(), source.choice(("a", "b"))
        rows = plain_rows(question, table)
        self.assert_said("rows " + text, self.joined(rows))
        self.assert_said("count " + text, str(len(rows)))
        self.assert_said(f"sum {name} {text}", str(plain_total(name, question, table)))
        least = plain_least(name, question, table)
        self.assert_said(f"least {name} {text}", "-" if least is None else f"{least[0]}: {self.joined(least[1])}")
        most = max([table[row][name] for row in rows], default=None)
        with_most = [row for row in rows if table[row][name] == most]
        self.assert_said(f"most {name} {text}", "-" if most is None else f"{most}: {self.joined(with_most)}")
        better_text = self.desk.say("better " + text)
        self.assert_said("rows " + better_text, self.joined(rows))
        fewest, at_most, plainly = [int(word) for word in self.desk.say("touched " + text).split(" ")]
        self.assertTrue(fewest <= at_most and fewest <= plainly)

    def joined(self, rows):
        return " ".join(str(row) for row in rows) or "-"


if __name__ == "__main__":
    unittest.main()
