"""Tables: rows with a value in each of some columns; rows come, go, change and are numbered anew."""

from runmarks.asking import is_name
from runmarks.better import asked
from runmarks.bits import is_whole
from runmarks.bybits import ByBits
from runmarks.byvalue import ByValue
from runmarks.errors import BadColumn, BadValue, NoRow, RowThere
from runmarks.marks import Marks, check_number, marks_of
from runmarks.walks import check_name

MOST_COLUMNS = 6


def is_size(kind, size):
    if not is_whole(size):
        return False
    return 0 <= size <= 999 if kind == "values" else kind == "bits" and 1 <= size <= 40


def columns_of(told):
    # A new column by its name for each tuple (name, kind, size).
    if not 1 <= len(told) <= MOST_COLUMNS:
        raise BadColumn("a table has one to six columns")
    columns = {}
    for name, kind, size in told:
        if not is_name(name) or name in columns:
            raise BadColumn("a column needs a name, and one of its own")
        if not is_size(kind, size):
            raise BadColumn("a column is one of values up to 0 to 999, or of 1 to 40 bits")
        columns[name] = ByValue(size) if kind == "values" else ByBits(size)
    return columns


class Table:
    def __init__(self, columns):
        self.columns = columns_of(columns)
        self.present = Marks()

    def put(self, row, values):
        if self.present.has(row):
            raise RowThere("this row is there already")
        self.check_values(values)
        self.present.put(row)
        for column, value in zip(self.columns.values(), values):
            column.put(row, value)

    def take(self, row):
        values = self.row_values(row)
        self.present.take(row)
        for column in self.columns.values():
            column.take(row)
        return values

    def row_values(self, row):
        if not self.present.has(row):
            raise NoRow("there is no such row")
        return [column.value(row) for column in self.columns.values()]

    def change(self, row, name, value):
        if not self.present.has(row):
            raise NoRow("there is no such row")
        check_name(name, self.columns)
        self.columns[name].put(row, value)

    def told(self):
        told = [("", 0, self.present.told())]
        for name in self.columns:
            told.extend([(name, number, rows) for number, rows in self.columns[name].sets()])
        return told

    def renumber(self):
        numbers = self.present.numbers()
        for name in list(self.columns):
            self.columns[name] = self.columns[name].renumbered(self.present)
        self.present = marks_of(list(range(len(numbers))))
        return numbers

    def names(self):
        return list(self.columns)

    def rows(self):
        return self.present.copied()

    def column_of(self, name):
        check_name(name, self.columns)
        return self.columns[name].copied()

    def column_copies(self):
        copies = {}
        for name in self.columns:
            copies[name] = self.columns[name].copied()
        return copies

    def ask(self, text):
        return asked(text, self.columns, self.present)

    def check_values(self, values):
        if len(values) != len(self.columns):
            raise BadValue("a row has one value for each column")
        for column, value in zip(self.columns.values(), values):
            if not column.can_have(value):
                raise BadValue("a column can't have this value")
