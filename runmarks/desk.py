"""A desk: a table that is spoken to in lines of text."""

from runmarks.asking import figures_of, read_question
from runmarks.better import better
from runmarks.errors import NoLine
from runmarks.tables import Table
from runmarks.walks import bound, check_name, walked, walked_by_books
from runmarks.writing import written

ASKING = ("rows", "count", "better", "touched")
ASKING_OF_A_COLUMN = ("sum", "least", "most")


def number_in(word):
    number = figures_of(word)
    if number is None:
        raise NoLine("there are no figures where figures ought to be")
    return number


def numbers_text(numbers):
    return " ".join([str(number) for number in numbers]) if numbers != [] else "-"


def check_words(words, many):
    if len(words) != many:
        raise NoLine("this line has too many or too few words")


class Desk:
    def __init__(self, columns):
        self.table = Table(columns)

    def say(self, line):
        words = line.split(" ")
        first = words[0]
        if first in ASKING:
            return self.say_asking(first, line)
        if first in ASKING_OF_A_COLUMN:
            return self.say_asking_of_a_column(first, line)
        if first == "put":
            return self.say_put(words)
        if first == "take" or first == "row":
            return self.say_row(words)
        if first == "change":
            return self.say_change(words)
        if first == "renumber":
            check_words(words, 1)
            return str(len(self.table.renumber()))
        if first == "tape":
            return self.say_tape(words)
        raise NoLine("no line begins so")

    def say_put(self, words):
        numbers = [number_in(word) for word in words[1:]]
        if numbers == []:
            raise NoLine("there is no row to be put in")
        self.table.put(numbers[0], numbers[1:])
        return "ok"

    def say_row(self, words):
        check_words(words, 2)
        row = number_in(words[1])
        return numbers_text(self.table.take(row) if words[0] == "take" else self.table.row_values(row))

    def say_change(self, words):
        check_words(words, 4)
        row = number_in(words[1])
        value = number_in(words[3])
        self.table.change(row, words[2], value)
        return "ok"

    def say_tape(self, words):
        check_words(words, 3)
        number = number_in(words[2])
        check_name(words[1], self.table.columns)
        return written(self.table.columns[words[1]].set_of(number))

    def say_asking(self, first, line):
        # The text of the question keeps its blanks: so it is cut off, not put together of words again.
        if " " not in line:
            raise NoLine("there is no question behind the word")
        question = read_question(line.partition(" ")[2])
        neat_one = better(question, self.table.columns)
        if first == "better":
            return neat_one.shown()
        rows, touches = walked_by_books(neat_one, self.table.columns, self.table.present)
        if first == "rows":
            return numbers_text(rows.numbers())
        if first == "count":
            return str(rows.many())
        plain_touches = walked(question, self.table.columns, self.table.present)[1]
        most = bound(question, self.table.columns, self.table.present)
        return numbers_text([len(touches), most, len(plain_touches)])

    def say_asking_of_a_column(self, first, line):
        rest = line.partition(" ")[2]
        if " " not in rest:
            raise NoLine("there is no question behind the column's name")
        name, blank, text = rest.partition(" ")
        check_name(name, self.table.columns)
        rows = self.table.ask(text)[0]
        column = self.table.columns[name]
        if first == "sum":
            return str(column.total(rows))
        found = column.least(rows) if first == "least" else column.most(rows)
        if found is None:
            return "-"
        return str(found[0]) + ": " + numbers_text(found[1].numbers())
