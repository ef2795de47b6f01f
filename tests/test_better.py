"""Points 75, 76, 77 and 79: questions put otherwise, and texts asked."""

import random
import unittest

from examples import MarksChecks
from plain_walks import (
    PlainWalk, drawn_bounds, drawn_kinds, drawn_values, drawn_walk, filled_columns, new_columns, rows_of, top_of,
)
from question_draws import drawn_question, fields
from runmarks.better import asked, better, neat
from runmarks.errors import BadText, NoColumn
from runmarks.marks import Marks
from runmarks.questions import AllOf, Every, Nobody, OneOf, Opposite, Within
from runmarks.walks import bound, walked, walked_by_books

KINDS = {"a": ("values", 9), "b": ("bits", 4), "c": ("values", 3), "d": ("bits", 2)}


def A(low, high=None):
    return Within("a", low, low if high is None else high)


def B(low, high=None):
    return Within("b", low, low if high is None else high)


def C(low, high=None):
    return Within("c", low, low if high is None else high)


def D(low, high=None):
    return Within("d", low, low if high is None else high)


def everything_in(question):
    beneath = [question.one] if isinstance(question, Opposite) else getattr(question, "parts", [])
    return [question] + [inner for part in beneath for inner in everything_in(part)]


def are_alike(one, other):
    return fields(one) == fields(other)


def has_alike(question, others):
    return any(are_alike(question, other) for other in others)


def is_good_within(within, kinds):
    top = top_of(*kinds[within.name])
    return 0 <= within.low <= within.high <= top and (within.low, within.high) != (0, top)


def have_numbers_side_by_side(one, other):
    numbers = set(range(one.low, one.high + 1)), set(range(other.low, other.high + 1))
    return bool(numbers[0] & numbers[1]) or one.low == other.high + 1 or other.low == one.high + 1


def parts_are_neat(question, kinds):
    parts, same = question.parts, type(question)
    if len(parts) < 2 or any(type(part) is same for part in parts):
        return False
    for at, part in enumerate(parts):
        others = parts[:at] + parts[at + 1:]
        if has_alike(part, others) or isinstance(part, Opposite) and has_alike(part.one, others):
            return False
        for other in others:
            if isinstance(part, Within) and isinstance(other, Within) and part.name == other.name:
                if same is AllOf or kinds[part.name][0] == "bits" and have_numbers_side_by_side(part, other):
                    return False
        if isinstance(part, (AllOf, OneOf)) and any(has_alike(inner, parts[:at]) for inner in part.parts):
            return False
    return True


def plain_neat(question, kinds):
    """Point 76, row by row."""
    inside = everything_in(question)
    if any(isinstance(inner, (Every, Nobody)) for inner in inside):
        return len(inside) == 1
    if not all(isinstance(inner.one, Within) for inner in inside if isinstance(inner, Opposite)):
        return False
    if not all(is_good_within(inner, kinds) for inner in inside if isinstance(inner, Within)):
        return False
    return all(parts_are_neat(inner, kinds) for inner in inside if isinstance(inner, (AllOf, OneOf)))


NEAT = (
    Every(), Nobody(), A(0), A(9), A(0, 8), A(1, 9), B(0, 14), Opposite(A(3)), Opposite(B(1, 15)),
    AllOf([A(1), B(2)]), OneOf([A(1), A(1, 5)]), OneOf([A(1), A(2)]), OneOf([B(1), B(3)]), OneOf([B(5, 9), B(0, 3)]),
    OneOf([A(1), B(2), Opposite(B(2, 3))]), AllOf([Opposite(A(1)), Opposite(A(2)), A(3)]),
    AllOf([A(1), OneOf([A(2), B(3)])]), AllOf([OneOf([A(1), B(3)]), A(1)]), OneOf([AllOf([A(1), B(3)]), A(1)]),
    OneOf([A(1), AllOf([A(2), B(3)])]), OneOf([B(1), AllOf([B(2), A(2)])]),
    AllOf([OneOf([A(1), AllOf([B(2), C(1)])]), OneOf([A(1), B(3)])]),
    OneOf([B(1), Opposite(B(2)), Opposite(B(3))]), AllOf([A(1), Opposite(A(1, 2))]),
    AllOf([OneOf([A(1), B(2)]), OneOf([AllOf([A(1), B(2)]), C(1)])]),
    OneOf([AllOf([A(1), B(2)]), AllOf([OneOf([A(1), B(2)]), C(1)])]), OneOf([A(1), AllOf([Opposite(A(1)), C(1)])]),
    OneOf([A(1), B(1), AllOf([A(1, 2), C(1)])]),
)
NOT_NEAT = (
    AllOf([Every(), A(1)]), OneOf([A(1), Nobody()]), Opposite(Every()), Opposite(Nobody()), AllOf([A(1), B(1), Every()]),
    OneOf([A(1), AllOf([B(1), Nobody()])]),
    Opposite(Opposite(A(1))), Opposite(AllOf([A(1), B(1)])), Opposite(OneOf([A(1), B(1)])), AllOf([A(1), Opposite(Every())]),
    AllOf([]), OneOf([]), AllOf([A(1)]), OneOf([A(1)]), AllOf([AllOf([A(1), B(1)]), C(1)]),
    OneOf([A(1), OneOf([B(1), C(1)])]), AllOf([A(1), OneOf([B(2)])]),
    AllOf([OneOf([A(1), B(1)]), OneOf([A(1), B(1)])]), OneOf([A(1), B(1), A(1)]), AllOf([Opposite(A(1)), Opposite(A(1))]),
    AllOf([A(1), Opposite(A(1))]), OneOf([Opposite(A(1)), B(1), A(1)]),
    A(-1, 3), A(3, 10), A(5, 4), A(0, 9), B(0, 15), B(3, 16), Opposite(A(0, 9)), AllOf([B(1), A(5, 4)]), A(10 ** 99),
    A(-(10 ** 99), 4),
    AllOf([A(1, 5), A(3, 9)]), AllOf([B(1, 5), A(1), B(3, 9)]), AllOf([A(1), A(3)]),
    OneOf([B(1, 5), B(5, 9)]), OneOf([B(1, 5), A(1), B(6, 9)]), OneOf([B(6, 9), B(1, 5)]), OneOf([B(1, 9), B(3, 4)]),
    AllOf([A(1), OneOf([B(2), A(1)])]), AllOf([C(1), A(1), OneOf([A(1), B(2)])]),
    OneOf([A(1), AllOf([B(2), A(1)])]), OneOf([Opposite(C(1)), A(1), AllOf([Opposite(C(1)), B(2)])]),
)


class Neat(MarksChecks):
    """Point 76."""

    def test_neat(self):
        for question in NEAT:
            self.assertIs(neat(question, new_columns(KINDS)), True, question.shown())
            self.assertIs(plain_neat(question, KINDS), True, question.shown())

    def test_not_neat(self):
        for question in NOT_NEAT:
            self.assertIs(neat(question, new_columns(KINDS)), False, fields(question))
            self.assertIs(plain_neat(question, KINDS), False, fields(question))

    def test_not_neat_further_down(self):
        for question in NOT_NEAT:
            for round_it in (lambda q: AllOf([D(1), OneOf([D(2), AllOf([D(3), OneOf([C(3), q])])])]),
                             lambda q: OneOf([D(1), AllOf([C(3), q])])):
                self.assertIs(neat(round_it(question), new_columns(KINDS)), False, fields(question))

    def test_every_and_nobody_stand_alone(self):
        for leaf in (Every(), Nobody()):
            self.assertIs(neat(leaf, {}), True)
            self.assertIs(neat(leaf, new_columns(KINDS)), True)
            self.assertIs(neat(OneOf([A(1), leaf]), new_columns(KINDS)), False)

    def test_tops_and_kinds(self):
        self.assertIs(neat(A(0, 3), new_columns({"a": ("values", 3)})), False)
        self.assertIs(neat(A(0, 3), new_columns({"a": ("bits", 2)})), False)
        self.assertIs(neat(A(0, 3), new_columns({"a": ("bits", 3)})), True)
        self.assertIs(neat(OneOf([A(1), A(2)]), new_columns({"a": ("bits", 3)})), False)
        self.assertIs(neat(OneOf([A(1), A(2)]), new_columns({"a": ("values", 3)})), True)

    def test_drawn(self):
        source, answers = random.Random(76), {True: 0, False: 0}
        for k in range(6000):
            kinds = drawn_kinds(source)
            question = drawn_question(source, list(kinds), drawn_bounds(kinds), source.randint(0, 3))
            for each in (question, better(question, new_columns(kinds))):
                told = neat(each, new_columns(kinds))
                self.assertIs(told, plain_neat(each, kinds), fields(each))
                answers[told] += 1
        self.assertGreater(min(answers.values()), 1000)

    def test_no_column(self):
        for function in (neat, better):
            for question, name in ((A(1), "a"), (AllOf([Nobody(), B(1), A(1)]), "b"), (OneOf([Every(), A(1)]), "a")):
                with self.assertRaises(NoColumn) as caught:
                    function(question, {})
                self.same(caught.exception.name, name)
            with self.assertRaises(NoColumn) as caught:
                function(OneOf([A(1), Within("y", 0, 1), Within("x", 0, 1)]), new_columns(KINDS))
            self.same(caught.exception.name, "y")


class PutOtherwise(MarksChecks):
    """Point 75."""

    def assert_better(self, question, kinds, values):
        columns, rows = filled_columns(kinds, values), rows_of(values)
        told = better(question, columns)
        self.assertTrue(plain_neat(told, kinds), (fields(question), fields(told)))
        self.assertTrue(neat(told, columns))
        self.assertEqual(fields(told), fields(better(question, new_columns(kinds))))
        wanted, touches = walked(question, columns, rows)
        answer, fewer = walked(told, columns, rows)
        self.assertEqual(answer.told(), wanted.told())
        self.assertLessEqual(set(fewer), set(touches), (fields(question), fields(told)))
        self.assertLessEqual(bound(told, columns, rows), bound(question, columns, rows))
        for key in rows.key_list():
            plain = PlainWalk(kinds, values)
            self.assertLessEqual(plain.bound_at(told, key), plain.bound_at(question, key))
        by_books = walked_by_books(told, columns, rows)
        self.assertEqual(by_books[0].told(), wanted.told())
        self.assertLessEqual(len(by_books[1]), bound(question, columns, rows))

    def test_each_row_of_what_is_not_neat(self):
        source = random.Random(75)
        for question in NOT_NEAT + NEAT:
            before = fields(question)
            for k in range(25):
                self.assert_better(question, KINDS, drawn_values(source, KINDS))
                self.assert_better(Opposite(question), KINDS, drawn_values(source, KINDS))
            self.assertEqual(fields(question), before)

    def test_drawn(self):
        source = random.Random(750)
        for k in range(3000):
            kinds, values, question = drawn_walk(source)
            self.assert_better(question, kinds, values)
            self.assert_better(question, kinds, drawn_values(source, kinds))

    def test_wide_ones(self):
        source = random.Random(751)
        for k in range(150):
            kinds = drawn_kinds(source)
            bounds = drawn_bounds(kinds)
            parts = [drawn_question(source, list(kinds), bounds, source.randint(0, 2)) for part in range(12)]
            for question in (AllOf(parts), OneOf(parts), Opposite(AllOf(parts)), Opposite(OneOf(parts))):
                if question.leaves() <= 110:
                    self.assert_better(question, kinds, drawn_values(source, kinds))

    def test_deep_ones(self):
        source = random.Random(752)
        for k in range(60):
            kinds = drawn_kinds(source)
            bounds, names = drawn_bounds(kinds), list(kinds)
            question = drawn_question(source, names, bounds, 0)
            for depth in range(50):
                part = Within(names[depth % len(names)], *bounds(source, names[depth % len(names)]))
                parts = source.choice(([question, part], [part, question], [question]))
                question = source.choice((AllOf(parts), OneOf(parts), Opposite(question)))
            self.assertEqual(question.depth(), 50)
            self.assert_better(question, kinds, drawn_values(source, kinds))

    def test_by_hand(self):
        columns = new_columns(KINDS)
        for question, wanted in (
            (AllOf([]), Every()), (OneOf([]), Nobody()), (Opposite(AllOf([])), Nobody()), (AllOf([A(3)]), A(3)),
            (A(0, 9), Every()), (A(-5, 20), Every()), (A(7, 20), A(7, 9)), (A(10, 20), Nobody()), (A(-9, -1), Nobody()),
            (A(5, 4), Nobody()), (Opposite(A(5, 4)), Every()), (Opposite(Opposite(A(3))), A(3)),
            (A(-(10 ** 99), 3), A(0, 3)), (B(3, 10 ** 99), B(3, 15)),
        ):
            self.assertEqual(fields(better(question, columns)), fields(wanted), fields(question))

    def test_neat_ones_stay(self):
        for question in NEAT:
            self.assertEqual(fields(better(question, new_columns(KINDS))), fields(question))

    def test_it_hangs_on_no_rows_and_no_other_columns(self):
        source = random.Random(753)
        for question in NOT_NEAT:
            mentioned = {name: KINDS[name] for name in KINDS if name in question.mentions()}
            wanted = fields(better(question, new_columns(mentioned)))
            columns = filled_columns(KINDS, drawn_values(source, KINDS))
            self.assertEqual(fields(better(question, columns)), wanted)
            self.assertEqual(fields(better(question, {**columns, "zoo": columns["a"]})), wanted)

    def test_nothing_that_is_handed_in_changes(self):
        question = AllOf([OneOf([A(1), A(2)]), AllOf([B(3), B(2, 9)])])
        before = fields(question)
        told = better(question, new_columns(KINDS))
        told.parts.append(Nobody())
        for part in told.parts:
            getattr(part, "parts", []).append(Nobody())
        self.assertEqual(fields(question), before)


class Asked(MarksChecks):
    """Points 77 and 79."""

    def test_bad_text_ahead_of_no_column(self):
        columns = new_columns(KINDS)
        for text, place in (("", 0), ("x is 1 and", 10), ("x is 1 y", 7), ("a is 01", 5), ("   ", 3)):
            with self.assertRaises(BadText) as caught:
                asked(text, columns, Marks())
            self.same(caught.exception.place, place)
        for text, name in (("x is 1", "x"), ("none and y is 1 and x is 2", "y"), ("all or (a is 1 and x is 2)", "x")):
            with self.assertRaises(NoColumn) as caught:
                asked(text, columns, Marks())
            self.same(caught.exception.name, name)

    def test_answers(self):
        source = random.Random(77)
        for k in range(1200):
            kinds, values, question = drawn_walk(source)
            text = self.text_of(question)
            if text is None:
                continue
            columns, rows = filled_columns(kinds, values), rows_of(values)
            answer, touches = asked(text, columns, rows)
            self.assert_marks(answer, [row for row in values if question.holds(values[row])])
            told = walked_by_books(better(question, columns), columns, rows)
            self.assertEqual((answer.told(), touches), (told[0].told(), told[1]))
            self.assertLessEqual(set(touches), set(walked(question, columns, rows)[1]))
            self.assertLessEqual(len(touches), bound(question, columns, rows))
            self.assert_marks(rows, values)

    def text_of(self, question):
        """The text of a question, None where it has none."""
        for inner in everything_in(question):
            if isinstance(inner, (AllOf, OneOf)) and len(inner.parts) < 2:
                return None
            if isinstance(inner, Within) and min(inner.low, inner.high) < 0:
                return None
        return question.shown()

    def test_touches_by_hand(self):
        values = {3: {"a": 1, "b": 0}, 4: {"a": 2, "b": 5}, 512: {"a": 4, "b": 8}}
        kinds = {"a": ("values", 9), "b": ("bits", 4)}
        columns, rows = filled_columns(kinds, values), rows_of(values)
        answer, touches = asked("a from 2 to 4", columns, rows)
        self.assert_marks(answer, [4, 512])
        self.assertEqual(touches, [(0, "a", 2)])
        answer, touches = asked("b from 0 to 4 and b from 3 to 9 or b is 5 and none", columns, rows)
        self.assert_marks(answer, [])
        self.assertEqual(touches, [(0, "b", 0), (0, "b", 2)])


if __name__ == "__main__":
    unittest.main()
