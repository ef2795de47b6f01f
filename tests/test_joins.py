"""Points 31 and 34: sets laid together."""

import unittest

from examples import MarksChecks, at_key, built_number_sets, drawn_number_sets
from runmarks.joins import common, either, joined, joined_all, less, lies_in, shared
from runmarks.marks import Marks, marks_of

FOUR = (
    (common, lambda one, other: one & other),
    (joined, lambda one, other: one | other),
    (less, lambda one, other: one - other),
    (either, lambda one, other: one ^ other),
)


def pairs_of_sets():
    sets = built_number_sets() + drawn_number_sets(31, 12)
    pairs = [(one, other) for at, one in enumerate(sets) for other in (sets[at - 1], sets[at - 5], sets[at - 8], one)]
    return pairs + [([], one) for one in sets] + [(one, []) for one in sets]


class Laid(MarksChecks):
    """Point 31."""

    def test_the_four(self):
        for one, other in pairs_of_sets():
            first, second = marks_of(one), marks_of(other)
            for laid, plainly in FOUR:
                self.assert_marks(laid(first, second), plainly(set(one), set(other)))
            self.assertEqual((first.told(), second.told()), (marks_of(one).told(), marks_of(other).told()))

    def test_a_set_and_itself(self):
        for numbers in built_number_sets():
            marks = marks_of(numbers)
            self.assert_marks(common(marks, marks), numbers)
            self.assert_marks(joined(marks, marks), numbers)
            self.assert_marks(less(marks, marks), [])
            self.assert_marks(either(marks, marks), [])
            self.same(shared(marks, marks), len(numbers))
            self.assertIs(lies_in(marks, marks), True)

    def test_shared_and_lies_in(self):
        for one, other in pairs_of_sets():
            self.same(shared(marks_of(one), marks_of(other)), len(set(one) & set(other)))
            self.assertIs(lies_in(marks_of(one), marks_of(other)), set(one) <= set(other))
            both = marks_of(one + other)
            self.assertIs(lies_in(marks_of(one), both), True)

    def test_the_empty_set_lies_in_any(self):
        for numbers in built_number_sets():
            self.assertIs(lies_in(Marks(), marks_of(numbers)), True)
            self.assertIs(lies_in(marks_of(numbers), Marks()), numbers == [])

    def test_nothing_in_common_behind(self):
        one, other = at_key(0, [1, 2]) + at_key(1, range(0, 256, 2)), at_key(1, range(100)) + at_key(2, range(9))
        for laid, plainly in FOUR:
            wanted = plainly(set(one), set(other))
            first, second = marks_of(one), marks_of(other)
            answer = laid(first, second)
            answer.put_span(0, 2000)
            answer.take(256)
            self.assert_marks(first, one)
            self.assert_marks(second, other)
            answer = laid(first, second)
            first.put_span(0, 700)
            second.take_span(0, 65535)
            self.assert_marks(answer, wanted)

    def test_joined_all(self):
        self.assert_marks(joined_all([]), [])
        self.assert_marks(joined_all([Marks(), Marks()]), [])
        lists = built_number_sets() + drawn_number_sets(32, 20)
        self.assert_marks(joined_all([marks_of(numbers) for numbers in lists]), sum(lists, []))
        for at in range(0, len(lists) - 3, 3):
            some = [marks_of(numbers) for numbers in lists[at:at + 3]]
            self.assert_marks(joined_all(some), sum(lists[at:at + 3], []))
            self.assertEqual([marks.told() for marks in some], [marks_of(n).told() for n in lists[at:at + 3]])

    def test_joined_all_of_one_is_a_new_set(self):
        for numbers in ([], [5, 300], list(range(500))):
            marks = marks_of(numbers)
            some = [marks]
            answer = joined_all(some)
            self.assertIsNot(answer, marks)
            answer.put(65535)
            self.assert_marks(marks, numbers)
            marks.put(65534)
            self.assert_marks(answer, numbers + [65535])
            self.assertEqual(len(some), 1)


class Equations(MarksChecks):
    """Point 34."""

    def test_the_three_equations(self):
        kinds = set()
        for one, other in pairs_of_sets():
            a, b = marks_of(one), marks_of(other)
            kinds.update(kind for key, kind, body in a.told() + b.told())
            self.assertEqual(either(either(a, b), b).told(), a.told())
            self.assertEqual(joined(less(a, b), common(a, b)).told(), a.told())
            self.assertEqual(joined(a, b).many() + common(a, b).many(), a.many() + b.many())
        self.assertEqual(kinds, {"list", "bits", "runs"})


if __name__ == "__main__":
    unittest.main()
