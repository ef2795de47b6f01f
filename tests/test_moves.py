"""Points 32 and 33: stretches slid, sets moved."""

import unittest

from examples import MarksChecks, built_number_sets, drawn_number_sets, plain_kept, some_sets, three_kinds
from runmarks.marks import Marks, marks_of
from runmarks.moves import moved, slid

GREAT = 10 ** 99


class Slid(MarksChecks):
    """Point 32."""

    def assert_half(self, half, places):
        if places:
            self.assertEqual(half.told(), plain_kept(places))
        else:
            self.assertIsNone(half)

    def test_each_kind(self):
        for places in some_sets()[::2]:
            for stretch in three_kinds(places):
                before = stretch.told()
                for by in (0, 1, 2, 17, 100, 128, 254, 255):
                    low, high = slid(stretch, by)
                    self.assert_half(low, [p + by for p in places if p + by < 256])
                    self.assert_half(high, [p + by - 256 for p in places if p + by >= 256])
                self.assertEqual(stretch.told(), before)

    def test_by_each_number_of_places(self):
        places = [0, 1, 2, 128, 254, 255]
        for by in range(256):
            low, high = slid(three_kinds(places)[0], by)
            self.assert_half(low, [p + by for p in places if p + by < 256])
            self.assert_half(high, [p + by - 256 for p in places if p + by >= 256])

    def test_stay_and_go_over(self):
        for stretch in three_kinds([0, 255]):
            self.same(slid(stretch, 0)[1], None)
            self.assertEqual([half.told() for half in slid(stretch, 1)], [("list", [1]), ("list", [0])])
            self.assertEqual([half.told() for half in slid(stretch, 255)], [("list", [255]), ("list", [254])])
        for stretch in three_kinds([200]):
            self.assertIsNone(slid(stretch, 55)[1])
            self.assertIsNone(slid(stretch, 56)[0])
        self.assertIs(type(slid(three_kinds([7])[0], 3)), tuple)


class Moved(MarksChecks):
    """Point 33."""

    def test_moved(self):
        for numbers in built_number_sets() + drawn_number_sets(33, 8):
            marks = marks_of(numbers)
            for by in (0, 1, 255, 256, 257, 1000, 65535, 65536, -1, -255, -256, -300, -65535, -65536, GREAT, -GREAT):
                self.assert_marks(moved(marks, by), [n + by for n in numbers if 0 <= n + by <= 65535])
            self.assert_marks(marks, numbers)

    def test_numbers_that_fall_out(self):
        marks = marks_of([0, 1, 65534, 65535])
        self.assertEqual(moved(marks, 1).numbers(), [1, 2, 65535])
        self.assertEqual(moved(marks, -1).numbers(), [0, 65533, 65534])
        self.assertEqual(moved(marks, 65535).numbers(), [65535])
        self.assertEqual(moved(marks, -65535).numbers(), [0])
        for by in (65536, -65536, GREAT, -GREAT, 10 ** 100 - 1, 1 - 10 ** 100):
            self.assertEqual(moved(marks, by).told(), [])

    def test_two_stretches_that_come_together(self):
        marks = marks_of([255, 256, 511, 512])
        self.assertEqual(moved(marks, 1).told(), [(1, "list", [0, 1]), (2, "list", [0, 1])])
        self.assertEqual(moved(marks, -1).told(), [(0, "list", [254, 255]), (1, "list", [254, 255])])

    def test_nothing_in_common_behind(self):
        for by in (0, 1, 256):
            marks = marks_of([5, 300])
            answer = moved(marks, by)
            answer.put_span(0, 1000)
            self.assert_marks(marks, [5, 300])
            answer = moved(marks, by)
            marks.take_span(0, 65535)
            self.assert_marks(answer, [5 + by, 300 + by])

    def test_the_empty_set(self):
        for by in (0, 1, -1, GREAT, -GREAT):
            self.assert_marks(moved(Marks(), by), [])


if __name__ == "__main__":
    unittest.main()
