"""Points 60, 61 and 63: questions, what they hold of and how they are shown."""

import unittest

from examples import Checks
from runmarks.questions import AllOf, Every, Nobody, OneOf, Opposite, Question, Within

GREAT = 10 ** 99
SIX = (Every, Nobody, Within, Opposite, AllOf, OneOf)


def a_is(number):
    return Within("a", number, number)


def b_is(number):
    return Within("b", number, number)


class Classes(Checks):
    def test_who_stands_under_whom(self):
        for one in SIX:
            self.assertTrue(issubclass(one, Question))
            for other in SIX:
                self.assertEqual(issubclass(one, other), one is other)


class Fields(Checks):
    """Point 60."""

    def test_within(self):
        for low, high in ((0, 9), (9, 0), (-GREAT, GREAT), (5, 5)):
            question = Within("colour", low, high)
            self.same((question.name, question.low, question.high), ("colour", low, high))

    def test_opposite(self):
        one = a_is(3)
        self.assertIs(Opposite(one).one, one)

    def test_parts_are_copied(self):
        for made in (AllOf, OneOf):
            parts = [a_is(3), b_is(4)]
            question = made(parts)
            self.assertEqual(question.parts, parts)
            self.assertIs(type(question.parts), list)
            parts.append(Nobody())
            parts[0] = Nobody()
            self.assertEqual(question.mentions(), ["a", "b"])
            self.assertEqual(len(question.parts), 2)
            self.assertIs(question.holds({"a": 3, "b": 4}), True)
            self.assertEqual(made([]).parts, [])

    def test_told_lists_are_the_askers_own(self):
        question = AllOf([a_is(1), OneOf([b_is(2), Opposite(a_is(4))])])
        question.mentions().append("z")
        a_is(1).mentions().append("z")
        self.assertEqual(question.mentions(), ["a", "b", "a"])

    def test_leaves(self):
        self.same(Every().leaves(), 1)
        self.same(Nobody().leaves(), 1)
        self.same(a_is(1).leaves(), 1)
        self.same(Opposite(a_is(1)).leaves(), 1)
        for made in (AllOf, OneOf):
            self.same(made([]).leaves(), 0)
            self.same(made([Every()]).leaves(), 1)
            one = a_is(1)
            self.same(made([one, one, made([]), Opposite(made([one, Nobody()]))]).leaves(), 4)

    def test_depth(self):
        self.same(Every().depth(), 0)
        self.same(Nobody().depth(), 0)
        self.same(a_is(1).depth(), 0)
        self.same(Opposite(a_is(1)).depth(), 1)
        self.same(Opposite(Opposite(Every())).depth(), 2)
        for made in (AllOf, OneOf):
            self.same(made([]).depth(), 1)
            self.same(Opposite(made([])).depth(), 2)
            self.same(made([a_is(1)]).depth(), 1)
            self.same(made([a_is(1), Opposite(made([])), Every()]).depth(), 3)
            self.same(made([Opposite(Opposite(Every())), made([])]).depth(), 3)

    def test_mentions(self):
        self.assertEqual([q.mentions() for q in (Every(), Nobody(), AllOf([]), OneOf([]))], [[], [], [], []])
        self.assertEqual(a_is(1).mentions(), ["a"])
        question = OneOf([b_is(1), AllOf([a_is(1), Every(), Opposite(b_is(2))]), Within("c", 9, 0), a_is(1)])
        self.assertEqual(question.mentions(), ["b", "a", "b", "c", "a"])

    def test_deep_and_wide(self):
        question = a_is(1)
        for k in range(50):
            question = (AllOf([question, b_is(k)]), OneOf([question]), Opposite(question))[k % 3]
        self.same(question.depth(), 50)
        self.same(question.leaves(), 18)
        self.assertIs(type(question.holds({"a": 1, "b": 2})), bool)
        self.same(OneOf([a_is(k) for k in range(110)]).leaves(), 110)


class Holds(Checks):
    """Point 61."""

    def test_leaves(self):
        for values in ({}, {"a": 1}):
            self.assertIs(Every().holds(values), True)
            self.assertIs(Nobody().holds(values), False)

    def test_within(self):
        for low, high in ((0, 0), (0, 9), (3, 7), (-5, -2), (9, 0), (-GREAT, GREAT), (GREAT, GREAT), (GREAT, -GREAT)):
            for value in (-GREAT, -6, -5, -2, -1, 0, 2, 3, 5, 7, 8, 9, 10, GREAT - 1, GREAT):
                self.assertIs(Within("a", low, high).holds({"a": value, "b": 0}), low <= value <= high)

    def test_by_its_own_name(self):
        self.assertIs(Within("a", 1, 2).holds({"b": 1, "a": 5}), False)
        self.assertIs(Within("b", 1, 2).holds({"b": 1, "a": 5}), True)

    def test_opposite(self):
        for one in (Every(), Nobody(), a_is(1), a_is(2), AllOf([]), OneOf([])):
            self.assertIs(Opposite(one).holds({"a": 1}), not one.holds({"a": 1}))

    def test_all_of_and_one_of(self):
        self.assertIs(AllOf([]).holds({}), True)
        self.assertIs(OneOf([]).holds({}), False)
        for one in (Every(), Nobody()):
            self.assertIs(AllOf([one]).holds({}), one.holds({}))
            self.assertIs(OneOf([one]).holds({}), one.holds({}))
            for other in (Every(), Nobody()):
                for third in (Every(), Nobody()):
                    parts = [one, other, third]
                    self.assertIs(AllOf(parts).holds({}), all(part.holds({}) for part in parts))
                    self.assertIs(OneOf(parts).holds({}), any(part.holds({}) for part in parts))

    def test_values_stay(self):
        values = {"a": 1, "b": 2}
        AllOf([a_is(1), Opposite(b_is(3)), OneOf([b_is(2)])]).holds(values)
        self.assertEqual(values, {"a": 1, "b": 2})


class Shown(Checks):
    """Point 63."""

    def test_leaves(self):
        self.same(Every().shown(), "all")
        self.same(Nobody().shown(), "none")
        self.same(a_is(0).shown(), "a is 0")
        self.same(Within("colour", 3, 10 ** 12 - 1).shown(), "colour from 3 to 999999999999")
        self.same(Within("a", 9, 3).shown(), "a from 9 to 3")
        self.same(Within("a", 10 ** 12 - 1, 10 ** 12 - 1).shown(), "a is 999999999999")

    def test_opposite(self):
        self.same(Opposite(Every()).shown(), "not all")
        self.same(Opposite(Nobody()).shown(), "not none")
        self.same(Opposite(a_is(1)).shown(), "not a is 1")
        self.same(Opposite(Within("a", 1, 2)).shown(), "not a from 1 to 2")
        self.same(Opposite(Opposite(a_is(1))).shown(), "not not a is 1")
        self.same(Opposite(AllOf([a_is(1), b_is(2)])).shown(), "not (a is 1 and b is 2)")
        self.same(Opposite(OneOf([a_is(1), b_is(2)])).shown(), "not (a is 1 or b is 2)")

    def test_all_of(self):
        both, one = AllOf([a_is(1), b_is(2)]), OneOf([a_is(1), b_is(2)])
        self.same(AllOf([a_is(1), Opposite(both), Every()]).shown(), "a is 1 and not (a is 1 and b is 2) and all")
        self.same(AllOf([both, b_is(3)]).shown(), "(a is 1 and b is 2) and b is 3")
        self.same(AllOf([b_is(3), one]).shown(), "b is 3 and (a is 1 or b is 2)")

    def test_one_of(self):
        both, one = AllOf([a_is(1), b_is(2)]), OneOf([a_is(1), b_is(2)])
        self.same(OneOf([both, b_is(3)]).shown(), "a is 1 and b is 2 or b is 3")
        self.same(OneOf([b_is(3), one]).shown(), "b is 3 or (a is 1 or b is 2)")
        self.same(OneOf([Opposite(one), Nobody(), AllOf([one, one])]).shown(),
                  "not (a is 1 or b is 2) or none or (a is 1 or b is 2) and (a is 1 or b is 2)")


if __name__ == "__main__":
    unittest.main()
