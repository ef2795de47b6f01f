"""Points 70 to 74 and 78: questions walked, what is known, the bound, sums."""

import random
import unittest

from examples import MarksChecks
from plain_walks import PlainWalk, drawn_walk, filled_columns, new_columns, rows_of
from runmarks.errors import NoColumn
from runmarks.marks import Marks, marks_of
from runmarks.questions import AllOf, Every, Nobody, OneOf, Opposite, Within
from runmarks.walks import bound, known, summed, walked, walked_by_books

KINDS = {"a": ("values", 9), "b": ("bits", 4)}
# Two keys: in key 0 the column a has 1, 2, 2 and b has 0, 5, 7; in key 2 a has 4, 4 and b has 8, 8.
VALUES = {
    3: {"a": 1, "b": 0}, 4: {"a": 2, "b": 5}, 9: {"a": 2, "b": 7}, 512: {"a": 4, "b": 8}, 600: {"a": 4, "b": 8},
}
A, B = (lambda low, high: Within("a", low, high)), (lambda low, high: Within("b", low, high))
B_TOUCHES = [(0, "b", 0), (0, "b", 1), (0, "b", 2), (2, "b", 3)]


def a_touches(*numbers):
    return [(0 if number < 4 else 2, "a", number) for number in numbers]


class Walks(MarksChecks):
    def setUp(self):
        self.columns = filled_columns(KINDS, VALUES)
        self.rows = rows_of(VALUES)

    def assert_walk(self, walk, question, rows, touches):
        answer = walk(question, self.columns, self.rows)
        self.assertIs(type(answer), tuple)
        self.assert_marks(answer[0], rows)
        self.assertEqual(answer[1], touches)
        self.assertTrue(all(type(touch) is tuple for touch in answer[1]))


class NoSuchColumn(Walks):
    """Point 70."""

    def functions(self):
        return (
            lambda question, columns, rows: walked(question, columns, rows),
            lambda question, columns, rows: walked_by_books(question, columns, rows),
            lambda question, columns, rows: known(question, columns, 0),
            lambda question, columns, rows: bound(question, columns, rows),
            lambda question, columns, rows: summed("a", question, columns, rows),
        )

    def test_the_first_name_from_the_left(self):
        for question, name in (
            (Within("x", 0, 1), "x"),
            (AllOf([A(0, 1), Within("y", 0, 1), Within("x", 0, 1)]), "y"),
            (AllOf([Nobody(), OneOf([Every(), Opposite(Within("z", 9, 0))]), Within("x", 0, 1)]), "z"),
            (OneOf([Every(), Within("nobody", 0, 1)]), "nobody"),
        ):
            for rows in (self.rows, Marks()):
                for function in self.functions():
                    with self.assertRaises(NoColumn) as caught:
                        function(question, self.columns, rows)
                    self.same(caught.exception.name, name)

    def test_a_sum_looks_up_its_own_name_first(self):
        for name, question, wanted in (
            ("x", Within("y", 0, 1), "x"), ("x", Every(), "x"), ("a", Within("y", 0, 1), "y"), ("y", A(0, 1), "y"),
        ):
            for rows in (self.rows, Marks()):
                with self.assertRaises(NoColumn) as caught:
                    summed(name, question, self.columns, rows)
                self.same(caught.exception.name, wanted)

    def test_of_no_columns(self):
        rows = marks_of([1, 300])
        self.assertEqual(walked(Every(), {}, rows)[0].numbers(), [1, 300])
        self.assertEqual(walked_by_books(OneOf([]), {}, rows)[0].numbers(), [])
        with self.assertRaises(NoColumn):
            walked(AllOf([Nobody(), A(0, 1)]), {}, rows)


class PlainWalks(Walks):
    """Points 71 and 72."""

    def test_leaves(self):
        self.assert_walk(walked, Every(), VALUES, [])
        self.assert_walk(walked, Nobody(), [], [])
        self.assert_walk(walked, A(1, 2), [3, 4, 9], a_touches(1, 2))
        self.assert_walk(walked, A(2, 9), [4, 9, 512, 600], a_touches(2, 4))
        self.assert_walk(walked, A(9, 0), [], [])
        self.assert_walk(walked, B(0, 5), [3, 4], B_TOUCHES)
        self.assert_walk(walked, B(9, 0), [], B_TOUCHES)
        self.assert_walk(walked, B(0, 15), VALUES, B_TOUCHES)

    def test_opposite(self):
        self.assert_walk(walked, Opposite(A(1, 1)), [4, 9, 512, 600], a_touches(1))
        self.assert_walk(walked, Opposite(Every()), [], [])
        self.assert_walk(walked, Opposite(Nobody()), VALUES, [])

    def test_all_of_stops_where_nothing_is_left(self):
        self.assert_walk(walked, AllOf([]), VALUES, [])
        self.assert_walk(walked, AllOf([A(1, 1), B(0, 15)]), [3], a_touches(1) + B_TOUCHES[:3])
        self.assert_walk(walked, AllOf([Nobody(), A(0, 9)]), [], [])
        self.assert_walk(walked, AllOf([A(5, 9), B(0, 9)]), [], [])
        self.assert_walk(walked, AllOf([A(1, 1), A(2, 2), B(0, 9)]), [], a_touches(1, 2))
        self.assert_walk(walked, AllOf([A(4, 4), B(0, 7), A(0, 9)]), [], a_touches(4) + B_TOUCHES[3:])

    def test_one_of_stops_where_all_is_found(self):
        self.assert_walk(walked, OneOf([]), [], [])
        self.assert_walk(walked, OneOf([Every(), A(0, 9)]), VALUES, [])
        self.assert_walk(walked, OneOf([A(4, 4), B(5, 7)]), [4, 9, 512, 600], sorted(a_touches(4) + B_TOUCHES[:3]))
        self.assert_walk(walked, OneOf([A(1, 1), A(2, 4), B(0, 9)]), VALUES, a_touches(1, 2, 4))

    def test_each_part_is_walked_by_itself(self):
        question = AllOf([A(1, 1), OneOf([A(1, 1), B(0, 0)])])
        self.assert_walk(walked, question, [3], a_touches(1) + B_TOUCHES[:3])

    def test_touches_are_sorted_each_once(self):
        question = OneOf([B(9, 0), A(2, 2), A(1, 2), B(9, 0), A(2, 4)])
        self.assert_walk(walked, question, VALUES, sorted(a_touches(1, 2, 4) + B_TOUCHES))

    def test_no_rows(self):
        columns = new_columns(KINDS)
        for walk in (walked, walked_by_books):
            answer, touches = walk(OneOf([A(0, 9), Every()]), columns, Marks())
            self.assert_marks(answer, [])
            self.assertEqual(touches, [])

    def test_drawn(self):
        source = random.Random(71)
        for k in range(1500):
            kinds, values, question = drawn_walk(source)
            columns, rows = filled_columns(kinds, values), rows_of(values)
            answer, touches = walked(question, columns, rows)
            self.assert_marks(answer, [row for row in values if question.holds(values[row])])
            self.assertEqual((answer.numbers(), touches), PlainWalk(kinds, values).walk(question))

    def test_nothing_that_is_handed_in_changes(self):
        before = [column.sets() for column in self.columns.values()]
        question = AllOf([A(1, 4), Opposite(B(5, 5))])
        for walk in (walked, walked_by_books):
            answer, touches = walk(question, self.columns, self.rows)
            answer.put_span(0, 65535)
            touches.append(9)
        for function in (bound, lambda q, c, r: summed("a", q, c, r)[1].append(9)):
            function(question, self.columns, self.rows)
        self.assertEqual([column.sets() for column in self.columns.values()], before)
        self.assertEqual(list(self.columns), ["a", "b"])
        self.assert_marks(self.rows, VALUES)
        self.assertEqual(len(question.parts), 2)


class ByBooks(Walks):
    """Point 73."""

    def assert_known(self, question, at_0, at_2):
        self.same(known(question, self.columns, 0), at_0)
        self.same(known(question, self.columns, 2), at_2)

    def test_leaves(self):
        self.assert_known(Every(), "all", "all")
        self.assert_known(Nobody(), "none", "none")
        self.assert_known(A(1, 2), "all", "none")
        self.assert_known(A(2, 4), "some", "all")
        self.assert_known(B(0, 7), "all", "none")
        self.assert_known(B(0, 6), "some", "none")
        self.assert_known(B(6, 6), "some", "none")

    def test_at_a_key_without_rows(self):
        for question, wanted in ((Every(), "all"), (Nobody(), "none"), (A(0, 9), "none"), (Opposite(B(0, 9)), "all")):
            self.same(known(question, self.columns, 1), wanted)
            self.same(known(question, self.columns, 255), wanted)

    def test_opposite(self):
        self.assert_known(Opposite(A(1, 2)), "none", "all")
        self.assert_known(Opposite(A(2, 4)), "some", "none")

    def test_all_of_and_one_of(self):
        every, nobody, some = A(0, 9), A(5, 9), A(2, 2)
        self.assert_known(AllOf([]), "all", "all")
        self.assert_known(OneOf([]), "none", "none")
        for parts, of_all, of_one in (
            ([every], "all", "all"), ([nobody], "none", "none"), ([some], "some", "some"),
            ([every, nobody], "none", "all"), ([some, nobody], "none", "some"), ([some, every], "some", "all"),
            ([nobody, nobody], "none", "none"), ([every, every], "all", "all"), ([some, every, nobody], "none", "all"),
            ([some, Opposite(some)], "some", "some"),
        ):
            self.same(known(AllOf(parts), self.columns, 0), of_all)
            self.same(known(OneOf(parts), self.columns, 0), of_one)
            self.same(known(AllOf(parts[::-1]), self.columns, 0), of_all)
            self.same(known(OneOf(parts[::-1]), self.columns, 0), of_one)

    def test_what_is_known_is_not_walked(self):
        walk = walked_by_books
        self.assert_walk(walk, A(0, 9), VALUES, [])
        self.assert_walk(walk, A(2, 4), [4, 9, 512, 600], a_touches(2))
        self.assert_walk(walk, B(0, 7), [3, 4, 9], [])
        self.assert_walk(walk, OneOf([A(2, 2), A(0, 9)]), VALUES, [])
        self.assert_walk(walk, AllOf([A(2, 2), A(5, 9)]), [], [])
        self.assert_walk(walk, AllOf([A(1, 2), A(2, 2)]), [4, 9], a_touches(2))
        self.assert_walk(walk, Opposite(A(1, 1)), [4, 9, 512, 600], a_touches(1))

    def test_drawn(self):
        source = random.Random(73)
        for k in range(1500):
            kinds, values, question = drawn_walk(source)
            columns, rows = filled_columns(kinds, values), rows_of(values)
            answer, touches = walked_by_books(question, columns, rows)
            plain_answer, plain_touches = walked(question, columns, rows)
            self.assertEqual(answer.told(), plain_answer.told())
            self.assertLessEqual(set(touches), set(plain_touches))
            self.assertEqual((answer.numbers(), touches), PlainWalk(kinds, values, True).walk(question))
            for key in {row // 256 for row in values}:
                self.same(known(question, columns, key), PlainWalk(kinds, values).known(question, key))


class Bounds(Walks):
    """Point 74."""

    def assert_bound(self, question, wanted):
        self.same(bound(question, self.columns, self.rows), wanted)

    def test_leaves(self):
        self.assert_bound(Every(), 0)
        self.assert_bound(Nobody(), 0)
        self.assert_bound(A(0, 9), 0)
        self.assert_bound(A(2, 4), 1)
        self.assert_bound(B(0, 7), 0)
        self.assert_bound(B(0, 6), 3)
        self.assert_bound(B(9, 0), 0)

    def test_others(self):
        self.assert_bound(Opposite(B(0, 6)), 3)
        self.assert_bound(AllOf([]), 0)
        self.assert_bound(OneOf([]), 0)
        self.assert_bound(AllOf([A(2, 2), A(1, 1), B(0, 6)]), 5)
        self.assert_bound(OneOf([A(2, 2), A(1, 1), B(0, 6), A(0, 0)]), 5)
        self.assert_bound(OneOf([A(2, 2), A(0, 3)]), 0)
        self.assert_bound(AllOf([A(2, 2), A(4, 9)]), 0)
        self.assert_bound(AllOf([A(2, 2), OneOf([A(1, 1), A(0, 3)])]), 1)
        self.same(bound(A(2, 4), new_columns(KINDS), Marks()), 0)

    def test_drawn(self):
        source = random.Random(74)
        for k in range(1500):
            kinds, values, question = drawn_walk(source)
            columns, rows = filled_columns(kinds, values), rows_of(values)
            told = bound(question, columns, rows)
            self.same(told, PlainWalk(kinds, values).bound(question))
            self.assertLessEqual(len(walked_by_books(question, columns, rows)[1]), told)


class Sums(Walks):
    """Point 78."""

    def assert_sum(self, name, question, total, touches):
        told = summed(name, question, self.columns, self.rows)
        self.assertIs(type(told), tuple)
        self.same(told[0], total)
        self.assertEqual(told[1], touches)

    def test_sums(self):
        self.assert_sum("a", Every(), 13, a_touches(1, 2, 4))
        self.assert_sum("a", Nobody(), 0, [])
        self.assert_sum("b", Every(), 28, B_TOUCHES)
        self.assert_sum("b", A(2, 2), 12, a_touches(2) + B_TOUCHES[:3])
        self.assert_sum("a", A(2, 2), 4, a_touches(1, 2))
        self.assert_sum("a", A(4, 4), 8, a_touches(4))
        self.assert_sum("a", AllOf([B(0, 6), B(7, 9)]), 0, B_TOUCHES[:3])

    def test_the_question_as_it_stands(self):
        question = AllOf([OneOf([A(1, 1), A(2, 2)]), A(4, 4)])
        self.assert_sum("b", question, 0, [])
        question = OneOf([AllOf([B(0, 6), A(1, 1)]), B(0, 6)])
        self.assert_sum("a", question, 3, sorted(a_touches(1, 2) + B_TOUCHES[:3]))

    def test_drawn(self):
        source = random.Random(78)
        for k in range(800):
            kinds, values, question = drawn_walk(source)
            columns, rows = filled_columns(kinds, values), rows_of(values)
            name = source.choice(list(kinds))
            total, touches = summed(name, question, columns, rows)
            held = [row for row in values if question.holds(values[row])]
            self.same(total, sum(values[row][name] for row in held))
            wanted = set(walked_by_books(question, columns, rows)[1])
            for key in {row // 256 for row in held}:
                wanted.update((key, name, number) for number in columns[name].numbers_at(key))
            self.assertEqual(touches, sorted(wanted))


if __name__ == "__main__":
    unittest.main()
