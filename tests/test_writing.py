"""Points 40, 41 and 42: the tape of a set."""

import unittest

from examples import MarksChecks, at_key
from plain_tapes import plain_tape, taped_sets
from runmarks.marks import Marks, marks_of
from runmarks.writing import tape_size, written

EVERYTHING = list(range(256))


class Written(MarksChecks):
    def test_the_empty_set(self):
        self.same(written(Marks()), "000000000")
        self.same(tape_size(Marks()), 9)

    def test_one_list(self):
        self.same(written(marks_of([256 * 5 + 3, 256 * 5 + 255])), "".join([
            "000000001", "00000101", "00", "0000000000000001", "00000000000010", "00000011", "11111111",
        ]))

    def test_one_of_bits(self):
        body = "10" * 128
        self.same(written(marks_of(EVERYTHING[::2])), "".join([
            "000000001", "00000000", "01", "0000000001111111", "00000000100000", body,
        ]))
        places = [0] + EVERYTHING[1::2]
        self.same(written(marks_of(places))[49:], "11" + "01" * 127)

    def test_one_of_runs(self):
        self.same(written(marks_of(at_key(255, [1, 2, 3, 4, 5, 200, 201]))), "".join([
            "000000001", "11111111", "10", "0000000000000110", "00000000000100",
            "00000001", "00000101", "11001000", "11001001",
        ]))

    def test_fields_of_heads(self):
        tape = written(marks_of(at_key(2, EVERYTHING) + at_key(7, EVERYTHING[::2]) + at_key(9, [4])))
        self.same(int(tape[:9], 2), 3)
        read = [[int(tape[at + a:at + b], 2) for a, b in ((0, 8), (8, 10), (10, 26), (26, 40))] for at in (9, 49, 89)]
        self.assertEqual(read, [[2, 2, 255, 2], [7, 1, 383, 34], [9, 0, 384, 35]])
        self.same(tape[129:145], "0000000011111111")
        self.same(tape[145:401], "10" * 128)
        self.same(tape[401:], "00000100")

    def test_the_places_of_the_fields(self):
        tape = written(marks_of(at_key(129, [7]) + at_key(255, EVERYTHING[:3])))
        self.same(int(tape[9:17], 2), 129)
        self.same(int(tape[17:19], 2), 0)
        self.same(int(tape[19:35], 2), 0)
        self.same(int(tape[35:49], 2), 1)
        self.same(int(tape[49:57], 2), 255)

    def test_all_sets(self):
        for numbers in taped_sets():
            marks = marks_of(numbers)
            tape = written(marks)
            self.same(tape, plain_tape(numbers))
            self.same(tape_size(marks), len(tape))
            self.same(len(tape), 9 + 40 * len(marks.key_list()) + 8 * marks.size())
            self.assert_marks(marks, numbers)

    def test_the_longest(self):
        numbers = [n for n in range(65536) if n % 2 == n // 256 % 2]
        tape = written(marks_of(numbers))
        self.same(tape, plain_tape(numbers))
        self.same(len(tape), 9 + 40 * 256 + 256 * 256)
        self.same(tape[:9], "100000000")
        self.same(written(marks_of(list(range(65536))))[9 + 255 * 40 + 10:9 + 255 * 40 + 26], "1" * 16)


if __name__ == "__main__":
    unittest.main()
