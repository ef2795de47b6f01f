"""Points 1, 2 and 3, and the interface: what holds over the whole program."""

import importlib
import inspect
import random
import unittest

from examples import MarksChecks
from plain_tables import PlainTable, drawn_row, drawn_row_values
from plain_tapes import plain_tape
from plain_walks import drawn_bounds
from question_draws import drawn_question, fields
from runmarks.better import better
from runmarks.errors import BadTape
from runmarks.joins import common, either, joined, less
from runmarks.marks import Marks, marks_of
from runmarks.moves import moved
from runmarks.packed import packed_below, packed_chosen, packed_has, packed_many
from runmarks.plainly import plain_least, plain_rows, plain_total
from runmarks.reading import read
from runmarks.tables import Table
from runmarks.walks import bound, summed, walked, walked_by_books
from runmarks.writing import written

FUNCTIONS = {
    "bits": "is_whole(thing) bit_at(word,place) counted(word) ones_below(word,place) one_at(word,k) first_one(word) "
            "last_one(word) span_word(first,last) word_of(places) places_of(word) runs_of(word) word_of_runs(runs) "
            "pushed(word,by) bits_text(number,many) number_of(text)",
    "kept": "sizes(word) kept(word) added(stretch,place) removed(stretch,place)",
    "books": "halved_keys(keys,key) halved_counts(aheads,k)",
    "marks": "marks_of(numbers) gathered(pairs)",
    "pairs": "pair_common(one,other) pair_joined(one,other) pair_less(one,other) pair_either(one,other) "
             "pair_shared(one,other)",
    "joins": "common(one,other) joined(one,other) less(one,other) either(one,other) shared(one,other) lies_in(one,other) "
             "joined_all(some)",
    "moves": "slid(stretch,by) moved(marks,by)",
    "writing": "written(marks) tape_size(marks)",
    "reading": "read(tape)",
    "packed": "packed_many(tape) packed_has(tape,n) packed_below(tape,n) packed_chosen(tape,k)",
    "asking": "is_name(word) figures_of(word) read_question(text)",
    "plainly": "plain_rows(question,table) plain_total(name,question,table) plain_least(name,question,table)",
    "walks": "walked(question,columns,rows) walked_by_books(question,columns,rows) known(question,columns,key) "
             "bound(question,columns,rows) summed(name,question,columns,rows)",
    "better": "better(question,columns) neat(question,columns) asked(text,columns,rows)",
}
STRETCH = "kind() body() told() word() many() has(place) below(place) chosen(k) onward(place) backward(place) size()"
COLUMN = ("top() put(row,value) take(row) value(row) rows() within(low,high) total(rows) least(rows) most(rows) sets() "
          "numbers_at(key) touched_at(key,low,high) word_at(key,low,high) known_at(key,low,high) copied() renumbered(rows)")
QUESTION = "holds(values) mentions() leaves() depth() shown()"
CLASSES = {
    "stretches.ListStretch(places)": STRETCH, "stretches.BitStretch(word)": STRETCH, "stretches.RunStretch(runs)": STRETCH,
    "marks.Marks()": "put(n) take(n) put_span(first,last) take_span(first,last) has(n) many() below(n) onward(n) "
                     "backward(n) chosen(k) numbers() told() size() book() below_looks(n) chosen_looks(k) key_list() "
                     "stretch_at(key) count_at(key) word_at(key) copied()",
    "byvalue.ByValue(top)": COLUMN, "bybits.ByBits(width)": COLUMN,
    "questions.Every()": QUESTION, "questions.Nobody()": QUESTION, "questions.Within(name,low,high)": QUESTION,
    "questions.Opposite(one)": QUESTION, "questions.AllOf(parts)": QUESTION, "questions.OneOf(parts)": QUESTION,
    "tables.Table(columns)": "put(row,values) take(row) row_values(row) change(row,name,value) told() renumber() names() "
                             "rows() column_of(name) column_copies() ask(text)",
    "desk.Desk(columns)": "say(line)",
    "errors.BadTape(place)": "", "errors.BadText(place)": "", "errors.NoColumn(name)": "",
}
BASES = ("stretches.Stretch", "columns.Column", "questions.Question", "errors.MarksError")


def module(name):
    return importlib.import_module("runmarks." + name)


class Interface(unittest.TestCase):
    def assert_call(self, thing, call):
        wanted = call.partition("(")[2].rstrip(")")
        names = [name for name in inspect.signature(thing).parameters if name != "self"]
        self.assertEqual(",".join(names), wanted, call)

    def test_functions(self):
        for name, calls in FUNCTIONS.items():
            for call in calls.split():
                self.assert_call(getattr(module(name), call.partition("(")[0]), call)

    def test_classes(self):
        for told, methods in CLASSES.items():
            name, _, call = told.partition(".")
            made = getattr(module(name), call.partition("(")[0])
            self.assertTrue(inspect.isclass(made))
            if not call.endswith("()"):
                self.assert_call(made.__init__, call)
            for method in methods.split():
                self.assert_call(getattr(made, method.partition("(")[0]), method)
        for told in BASES:
            name, _, base = told.partition(".")
            self.assertTrue(inspect.isclass(getattr(module(name), base)))


class Sets(MarksChecks):
    """Point 3, of sets and their tapes."""

    def deed(self, source, marks, held):
        first = source.choice((source.randrange(2000), source.randrange(65536), 0, 255, 65280))
        last = min(65535, first + source.choice((0, 1, 30, 300, 3000)))
        span, what = set(range(first, last + 1)), source.randrange(9)
        if what == 0:
            self.assertIs(marks.put(first), first not in held)
            return marks, held | {first}
        if what == 1:
            self.assertIs(marks.take(first), first in held)
            return marks, held - {first}
        if what in (2, 3):
            self.same(marks.put_span(first, last), len(span - held))
            return marks, held | span
        if what == 4:
            self.same(marks.take_span(first, last), len(span & held))
            return marks, held - span
        if what == 5:
            by = source.choice((1, -1, 256, -300, 77))
            return moved(marks, by), {n + by for n in held if 0 <= n + by <= 65535}
        some = set(source.sample(range(3000), 400)) | set(range(5000, 5200))
        laid, plainly = source.choice(((common, held & (some | span)), (joined, held | some | span),
                                       (less, held - (some | span)), (either, held ^ (some | span))))
        return laid(marks, marks_of(sorted(some | span))), plainly

    def test_drawn_deeds(self):
        source = random.Random(300)
        for k in range(12):
            marks, held = Marks(), set()
            for deed in range(40):
                marks, held = self.deed(source, marks, held)
                if deed % 8 == 7:
                    self.assert_whole(source, marks, sorted(held))

    def assert_whole(self, source, marks, numbers):
        self.assert_marks(marks, numbers)
        self.assertEqual(marks.told(), marks_of(numbers).told())
        tape = written(marks)
        self.same(tape, plain_tape(numbers))
        self.assertEqual(read(tape).told(), marks.told())
        self.assertEqual(packed_many(tape)[0], len(numbers))
        for n in source.sample(range(65536), 5) + source.sample(numbers, min(5, len(numbers))):
            self.same(marks.below(n), len([m for m in numbers if m < n]))
            self.assertEqual((packed_has(tape, n)[0], packed_below(tape, n)[0]), (marks.has(n), marks.below(n)))
            self.assertEqual((marks.has(n), marks.onward(n), marks.backward(n)),
                             (n in numbers, min([m for m in numbers if m >= n], default=None),
                              max([m for m in numbers if m <= n], default=None)))
        for k in source.sample(range(len(numbers)), min(5, len(numbers))):
            self.assertEqual((marks.chosen(k), packed_chosen(tape, k)[0]), (numbers[k], numbers[k]))
        self.assert_refused_or_very(source, tape)

    def assert_refused_or_very(self, source, tape):
        place = source.randrange(len(tape))
        turned = tape[:place] + str(1 - int(tape[place])) + tape[place + 1:]
        try:
            self.assertEqual(written(read(turned)), turned)
        except BadTape as refusal:
            self.assertTrue(0 <= refusal.place <= len(turned))

    def test_alike_just_where_equal(self):
        source = random.Random(301)
        lists = [sorted(source.sample(range(300), source.choice((1, 2, 40, 250)))) for k in range(30)]
        lists += [numbers[:-1] for numbers in lists]
        for one in lists:
            for other in lists:
                self.assertEqual(marks_of(one).told() == marks_of(other).told(), one == other)


class Tables(MarksChecks):
    """Point 3, of tables: asked as if every row were looked at."""

    COLUMNS = [("a", "values", 5), ("b", "bits", 3), ("c", "values", 1), ("d", "bits", 40)]
    KINDS = {name: (kind, size) for name, kind, size in COLUMNS[:3]}

    def deed(self, source, table, plain):
        row, values = drawn_row(source), drawn_row_values(source, plain.tops())
        if row not in plain.values:
            table.put(row, values)
            plain.values[row] = values
        elif source.random() < 0.4:
            self.assertEqual(table.take(row), plain.values.pop(row))
        else:
            table.change(row, "b", values[1])
            plain.values[row] = [plain.values[row][0], values[1]] + plain.values[row][2:]
        if source.random() < 0.04:
            self.assertEqual(table.renumber(), plain.renumber())

    def test_drawn(self):
        source = random.Random(302)
        for k in range(12):
            table, plain = Table(self.COLUMNS), PlainTable(self.COLUMNS)
            for deed in range(50):
                self.deed(source, table, plain)
                if deed % 5 == 4:
                    question = drawn_question(source, ["a", "b", "c"], drawn_bounds(self.KINDS), source.randint(0, 3))
                    self.assert_question(source, table, plain, question)
            at_once = Table(self.COLUMNS)
            for row, values in plain.values.items():
                at_once.put(row, values)
            self.assertEqual(table.told(), at_once.told())
            self.assertEqual(table.told(), plain.told())

    def assert_question(self, source, table, plain, question):
        before, fields_before = table.told(), fields(question)
        columns, rows, by_names = table.column_copies(), table.rows(), plain.by_names()
        wanted = plain_rows(question, by_names)
        told = better(question, columns)
        for each in (question, told):
            self.assertEqual(walked(each, columns, rows)[0].numbers(), wanted)
            self.assertEqual(walked_by_books(each, columns, rows)[0].numbers(), wanted)
        touches = walked_by_books(told, columns, rows)[1]
        self.assertLessEqual(set(touches), set(walked(question, columns, rows)[1]))
        self.assertLessEqual(len(touches), bound(question, columns, rows))
        name = source.choice(("a", "b", "c", "d"))
        self.same(summed(name, question, columns, rows)[0], plain_total(name, question, by_names))
        least = columns[name].least(marks_of(wanted))
        self.assertEqual(least and (least[0], least[1].numbers()), plain_least(name, question, by_names))
        self.assertEqual(table.told(), before)
        self.assertEqual(fields(question), fields_before)


if __name__ == "__main__":
    unittest.main()
