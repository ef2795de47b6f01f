"""Points 20 to 25, 28 and 29: sets of numbers and their books."""

import random
import unittest

from examples import (
    NO_NUMBERS, NO_WHOLE, MarksChecks, at_key, built_number_sets, drawn_number_sets, places_by_key, plain_word,
)
from runmarks.errors import NoNumber, NoPlace
from runmarks.kept import kept
from runmarks.marks import Marks, gathered, marks_of

EDGES = (0, 1, 254, 255, 256, 257, 511, 512, 32767, 65279, 65280, 65281, 65534, 65535)


def all_sets():
    return built_number_sets() + drawn_number_sets(20, 15)


def beside(numbers):
    """Numbers at the edges, and some that are in a set or right beside one that is."""
    near = [n + step for n in numbers[:3] + numbers[-3:] + numbers[::97] for step in (-1, 0, 1)]
    return sorted({n for n in near if 0 <= n <= 65535} | set(EDGES))


class Deeds(MarksChecks):
    """Points 20, 21, 24, 25."""

    def test_the_empty_set(self):
        self.assert_marks(Marks(), [])
        self.assertEqual((Marks().told(), Marks().book(), Marks().numbers()), ([], [], []))
        self.same(Marks().size(), 0)

    def test_put_and_take_at_the_edges(self):
        for n in (0, 255, 256, 65280, 65535):
            marks = Marks()
            self.assertIs(marks.take(n), False)
            self.assertIs(marks.put(n), True)
            self.assertIs(marks.put(n), False)
            self.assert_marks(marks, [n])
            self.assertIs(marks.take(n), True)
            self.assertIs(marks.take(n), False)
            self.assert_marks(marks, [])

    def test_told_by_hand(self):
        marks = Marks()
        for n in (65535, 256, 3, 4, 5, 300):
            marks.put(n)
        self.assertEqual(marks.told(), [(0, "runs", [(3, 5)]), (1, "list", [0, 44]), (255, "list", [255])])
        self.assertEqual(marks.book(), [(0, 0), (1, 3), (255, 5)])
        self.same(marks.size(), 5)
        self.assertEqual(marks.numbers(), [3, 4, 5, 256, 300, 65535])

    def test_long_rows_of_deeds(self):
        source = random.Random(21)
        for keys in ((0,), (0, 1, 2), (5, 6, 254, 255), tuple(range(256))):
            marks, held = Marks(), set()
            for k in range(600):
                n = source.choice(keys) * 256 + source.randrange(source.choice((8, 256)))
                if source.random() < (0.75 if k % 300 < 200 else 0.25):
                    self.assertIs(marks.put(n), n not in held)
                    held.add(n)
                else:
                    self.assertIs(marks.take(n), n in held)
                    held.discard(n)
                if k % 10 == 0:
                    self.assert_marks(marks, held)
            self.assert_marks(marks, held)

    def test_spans_by_hand(self):
        marks = Marks()
        self.same(marks.put_span(10, 10), 1)
        self.same(marks.put_span(10, 12), 2)
        self.same(marks.put_span(10, 12), 0)
        self.same(marks.put_span(250, 520), 271)
        self.assertEqual(marks.told(), [
            (0, "runs", [(10, 12), (250, 255)]), (1, "runs", [(0, 255)]), (2, "runs", [(0, 8)]),
        ])
        self.same(marks.take_span(256, 511), 256)
        self.assertEqual(marks.book(), [(0, 0), (2, 9)])
        self.same(marks.take_span(256, 511), 0)
        self.same(marks.take_span(11, 513), 10)
        self.assert_marks(marks, [10, 514, 515, 516, 517, 518, 519, 520])

    def test_all_numbers(self):
        marks = Marks()
        self.same(marks.put_span(0, 65535), 65536)
        self.assertEqual(marks.told(), [(key, "runs", [(0, 255)]) for key in range(256)])
        self.assertEqual(marks.book(), [(key, 256 * key) for key in range(256)])
        self.same(marks.size(), 512)
        self.same(marks.take_span(1, 65534), 65534)
        self.assert_marks(marks, [0, 65535])
        self.same(marks.take_span(0, 65535), 2)
        self.assert_marks(marks, [])

    def test_first_greater_than_last(self):
        for first, last in ((1, 0), (65535, 0), (256, 255), (300, 299), (5, 4), (700, 20), (9, 3), (255, 0), (511, 256)):
            for numbers in ([], [0, 4, 5, 255, 256, 299, 300, 65535]):
                marks = marks_of(numbers)
                self.same(marks.put_span(first, last), 0)
                self.same(marks.take_span(first, last), 0)
                self.assert_marks(marks, numbers)

    def test_drawn_spans(self):
        source = random.Random(24)
        for numbers in built_number_sets():
            marks, held = marks_of(numbers), set(numbers)
            for k in range(6):
                first = source.choice((0, 255, 256, source.randrange(65536), source.randrange(1024)))
                last = min(65535, first + source.choice((0, 1, 255, 256, 700, 3000)))
                span = set(range(first, last + 1))
                if source.random() < 0.5:
                    self.same(marks.put_span(first, last), len(span - held))
                    held |= span
                else:
                    self.same(marks.take_span(first, last), len(span & held))
                    held -= span
                self.assert_marks(marks, held)

    def test_alike_by_other_deeds(self):
        source = random.Random(3)
        for numbers in drawn_number_sets(4, 8):
            made, order = Marks(), numbers + source.sample(range(1024), 40)
            source.shuffle(order)
            for n in order:
                made.put(n)
            for n in set(order) - set(numbers):
                made.take(n)
            self.assertEqual(made.told(), marks_of(numbers).told())
            self.assertEqual(made.book(), marks_of(numbers).book())

    def test_told_lists_are_the_askers_own(self):
        numbers = at_key(0, [3, 70]) + at_key(2, range(10, 200))
        marks = marks_of(numbers)
        told = marks.told()
        told[0][2].append(9)
        told[1][2][0] = (0, 255)
        told.append(9)
        for answer in (marks.numbers(), marks.book(), marks.key_list(), marks.below_looks(3), marks.chosen_looks(0)):
            answer[0] = 99
            answer.append(99)
        self.assert_marks(marks, numbers)


class Refused(MarksChecks):
    """Point 22, and NoPlace of point 23."""

    def test_each_method_that_takes_a_number(self):
        for numbers in ([], [0, 7, 300]):
            marks = marks_of(numbers)
            methods = (marks.put, marks.take, marks.has, marks.below, marks.onward, marks.backward, marks.below_looks)
            for method in methods:
                for thing in NO_NUMBERS:
                    with self.subTest(method=method.__name__, thing=thing):
                        with self.assertRaises(NoNumber):
                            method(thing)
                        self.assert_marks(marks, numbers)

    def test_either_end_of_a_span(self):
        numbers = [0, 1, 7, 300]
        marks = marks_of(numbers)
        for method in (marks.put_span, marks.take_span):
            for thing in NO_NUMBERS:
                for good in (0, 1, 7, 65535):
                    for ends in ((thing, good), (good, thing), (thing, thing)):
                        with self.assertRaises(NoNumber):
                            method(*ends)
            for ends in ((65536, 0), (5, -1), (65536, -1), (65536, 65535), (0, -1)):
                with self.assertRaises(NoNumber):
                    method(*ends)
        self.assert_marks(marks, numbers)

    def test_a_thing_in_a_list(self):
        good = [5, 300, 5, 65535]
        for thing in NO_NUMBERS:
            for at in range(5):
                numbers = good[:at] + [thing] + good[at:]
                with self.assertRaises(NoNumber):
                    marks_of(numbers)
                self.assertEqual(numbers, good[:at] + [thing] + good[at:])

    def test_no_place(self):
        for numbers in all_sets():
            marks = marks_of(numbers)
            many = len(numbers)
            for k in (many, many + 1, -1, -many, 65536, 10 ** 99, -(10 ** 99)) + NO_WHOLE:
                if k == 0 and type(k) is int and many > 0:
                    continue
                with self.assertRaises(NoPlace):
                    marks.chosen(k)
                with self.assertRaises(NoPlace):
                    marks.chosen_looks(k)
        for k in (0, 1, -1) + NO_WHOLE:
            with self.assertRaises(NoPlace):
                Marks().chosen(k)
            with self.assertRaises(NoPlace):
                Marks().chosen_looks(k)


class Asked(MarksChecks):
    """Points 23 and 28."""

    def test_numbers_asked_about(self):
        for numbers in all_sets():
            marks, held = marks_of(numbers), set(numbers)
            for n in beside(numbers):
                self.assertIs(marks.has(n), n in held)
                self.same(marks.below(n), len([m for m in numbers if m < n]))
                self.same(marks.onward(n), min([m for m in numbers if m >= n], default=None))
                self.same(marks.backward(n), max([m for m in numbers if m <= n], default=None))
            self.assert_marks(marks, numbers)

    def test_chosen(self):
        for numbers in all_sets():
            marks = marks_of(numbers)
            for k in sorted({0, 1, 255, 256, len(numbers) - 1} | set(range(0, len(numbers), 37))):
                if 0 <= k < len(numbers):
                    self.same(marks.chosen(k), numbers[k])

    def test_the_empty_set(self):
        for n in EDGES:
            self.assertIs(Marks().has(n), False)
            self.same(Marks().below(n), 0)
            self.assertIsNone(Marks().onward(n))
            self.assertIsNone(Marks().backward(n))
            self.assertEqual(Marks().below_looks(n), [])

    def test_none_where_there_is_none(self):
        marks = marks_of([300, 301, 900])
        self.assertEqual([marks.onward(n) for n in (0, 300, 302, 900, 901, 65535)], [300, 300, 900, 900, None, None])
        self.assertEqual([marks.backward(n) for n in (0, 299, 300, 899, 900, 65535)], [None, None, 300, 301, 900, 900])

    def test_at_a_key(self):
        for numbers in all_sets():
            marks, by_key = marks_of(numbers), places_by_key(numbers)
            for key in range(256):
                places = by_key.get(key, [])
                self.same(marks.count_at(key), len(places))
                self.same(marks.word_at(key), plain_word(places))
                if places:
                    self.assertEqual(marks.stretch_at(key).told(), kept(plain_word(places)).told())
                else:
                    self.assertIsNone(marks.stretch_at(key))

    def test_looks_by_hand(self):
        marks = marks_of([5, 6, 300, 1000])
        self.assertEqual(marks.book(), [(0, 0), (1, 2), (3, 3)])
        self.assertEqual([marks.below_looks(n) for n in (5, 300, 600, 1000, 65535)],
                         [[1, 0], [1, 0], [1, 2], [1, 2], [1, 2]])
        self.assertEqual([marks.chosen_looks(k) for k in range(4)], [[1, 0], [1, 0], [1, 2], [1, 2]])

    def test_looks_follow_the_book(self):
        for numbers in all_sets():
            marks = marks_of(numbers)
            keys, aheads = [key for key, ahead in marks.book()], [ahead for key, ahead in marks.book()]
            for n in beside(numbers):
                self.assert_looks(marks.below_looks(n), keys, lambda at: keys[at] < n // 256)
            for k in range(0, len(numbers), 53):
                self.assert_looks(marks.chosen_looks(k), aheads, lambda at: aheads[at] <= k)

    def assert_looks(self, looks, things, goes_on):
        low, high = 0, len(things)
        for look in looks:
            self.same(look, (low + high) // 2)
            low, high = (look + 1, high) if goes_on(look) else (low, look)
        self.assertEqual(low, high)
        self.assertLessEqual(len(looks), len(things).bit_length())

    def test_how_many_looks(self):
        for many, most in ((1, 1), (2, 2), (3, 2), (4, 3), (255, 8), (256, 9)):
            marks = marks_of([256 * key for key in range(many)])
            below = [len(marks.below_looks(n)) for n in range(0, 65536, 256)]
            chosen = [len(marks.chosen_looks(k)) for k in range(many)]
            self.assertEqual((max(below), max(chosen)), (most, most))


class Made(MarksChecks):
    """Point 29, and what point 2 says of it."""

    def test_of_lists(self):
        source = random.Random(29)
        for numbers in all_sets():
            self.assert_marks(marks_of(numbers), numbers)
            twice = numbers + numbers[::3]
            source.shuffle(twice)
            before = twice[:]
            marks = marks_of(twice)
            self.assertEqual(twice, before)
            twice.append(9)
            twice[:1] = [77]
            self.assert_marks(marks, numbers)

    def test_of_a_long_list(self):
        self.assert_marks(marks_of([7 * n % 65536 for n in range(70000)]), range(65536))

    def test_gathered(self):
        self.assert_marks(gathered([]), [])
        self.assert_marks(gathered([(0, None), (7, None)]), [])
        for numbers in all_sets():
            by_key = places_by_key(numbers)
            pairs = [(key, kept(plain_word(by_key.get(key, [])))) for key in range(256)]
            self.assert_marks(gathered(pairs), numbers)
            pairs = [(key, stretch) for key, stretch in pairs if stretch is not None or key % 90 == 0]
            marks = gathered(pairs)
            pairs.append((300, None))
            pairs[:1] = []
            self.assert_marks(marks, numbers)

    def test_gathered_sets_have_nothing_in_common(self):
        stretch = kept(9)
        one, other = gathered([(3, stretch)]), gathered([(3, stretch)])
        one.put(768 + 200)
        one.take(768)
        self.assert_marks(one, [771, 968])
        self.assert_marks(other, [768, 771])
        self.assertEqual(stretch.told(), ("list", [0, 3]))

    def test_a_copy_and_its_source(self):
        for numbers in all_sets():
            source = marks_of(numbers)
            copy = source.copied()
            self.assert_marks(copy, numbers)
            copy.put_span(0, 300)
            copy.take_span(65000, 65535)
            copy.put(40000)
            changed = sorted((set(numbers) | set(range(301)) | {40000}) - set(range(65000, 65536)))
            self.assert_marks(copy, changed)
            self.assert_marks(source, numbers)
            source.take_span(0, 65535)
            self.assert_marks(copy, changed)
            self.assert_marks(source, [])


if __name__ == "__main__":
    unittest.main()
