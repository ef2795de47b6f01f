"""Points 43 to 46: tapes read, or refused by a place."""

import random
import unittest

from examples import MarksChecks, at_key
from plain_tapes import EVERYTHING, body_fields, one_stretch, plain_tape, signs, tape_fields, taped_sets
from runmarks.errors import BadTape
from runmarks.marks import marks_of
from runmarks.reading import read
from runmarks.writing import written

LIST, BITS, RUNS = 0, 1, 2
SEVERAL = at_key(1, [1, 2]) + at_key(2, EVERYTHING[5:50]) + at_key(3, EVERYTHING[1::2]) + at_key(200, [255])


def bits_of(places):
    return "".join("1" if place in places else "0" for place in EVERYTHING)


def eights(*numbers):
    return [signs(number, 8) for number in numbers]


class Tapes(MarksChecks):
    def assert_refused(self, tape, place):
        with self.assertRaises(BadTape) as caught:
            read(tape)
        self.same(caught.exception.place, place)

    def assert_read(self, tape, numbers):
        marks = read(tape)
        self.assert_marks(marks, numbers)
        self.assertEqual(written(marks), tape)


class Signs(Tapes):
    """Point 43, of signs that are neither 0 nor 1."""

    def test_at_any_place(self):
        tape = plain_tape(SEVERAL)
        for place in range(0, len(tape), 7):
            for sign in ("2", " ", "x", "\n", "O", "\u0661", "-"):
                self.assert_refused(tape[:place] + sign + tape[place + 1:], place)

    def test_whatever_else_is_wrong(self):
        self.assert_refused("1" * 9 + "x", 9)
        self.assert_refused("x", 0)
        self.assert_refused("000000000" + "11x", 11)
        self.assert_refused("01x1x", 2)
        self.assert_refused(plain_tape(SEVERAL) + "0" * 50 + "z", len(plain_tape(SEVERAL)) + 50)
        self.assert_refused(one_stretch(3, 1, 1, eights(7)) + "?", 57)


class Ends(Tapes):
    """Point 43, of texts that end too early or too late."""

    def test_within_each_field(self):
        for numbers in ([], [7], EVERYTHING[::2], EVERYTHING, SEVERAL):
            tape = plain_tape(numbers)
            for length in range(len(tape)):
                self.assert_refused(tape[:length], length)

    def test_the_text_without_signs(self):
        self.assert_refused("", 0)

    def test_signs_behind(self):
        for numbers in taped_sets():
            tape = plain_tape(numbers)
            for more in ("0", "1", "0" * 9, tape):
                self.assert_refused(tape + more, len(tape))


class Heads(Tapes):
    """Point 44."""

    def test_m(self):
        for many in (257, 258, 511):
            self.assert_refused(signs(many, 9), 0)
            self.assert_refused(signs(many, 9) + "0" * 30000, 0)
        self.assert_refused(signs(256, 9), 9)
        self.assert_read(plain_tape(range(0, 65536, 256)), range(0, 65536, 256))

    def test_keys(self):
        first = [signs(2, 9), signs(7, 8), signs(LIST, 2), signs(0, 16), signs(1, 14)]
        for key in (0, 6, 7):
            self.assert_refused("".join(first) + signs(key, 8), 49)
            self.assert_refused("".join(first) + signs(key, 8) + "1" * 100, 49)
        rest = [signs(LIST, 2), signs(1, 16), signs(2, 14)] + eights(3, 4)
        self.assert_read("".join(first) + signs(8, 8) + "".join(rest), [7 * 256 + 3, 8 * 256 + 4])
        for key in (0, 255):
            self.assert_read(one_stretch(LIST, 1, 1, eights(9), key), [key * 256 + 9])

    def test_kind_3(self):
        self.assert_refused(one_stretch(3, 1, 1, eights(7)), 17)
        self.assert_refused(signs(1, 9) + signs(0, 8) + "11", 17)
        second = tape_fields(SEVERAL)
        second[6] = "11"
        self.assert_refused("".join(second), 57)

    def test_last(self):
        for kind, many, stop in (
            (LIST, 33, 33), (LIST, 256, 256), (LIST, 257, 257), (LIST, 65536, 1), (BITS, 32, 32), (BITS, 1, 32),
            (BITS, 257, 32), (BITS, 65536, 32), (RUNS, 1, 2), (RUNS, 2, 2), (RUNS, 257, 2), (RUNS, 65536, 2),
        ):
            self.assert_refused(one_stretch(kind, many, stop, ["0" * 400]), 19)

    def test_last_of_a_later_head(self):
        fields = tape_fields(at_key(0, [1, 2, 3]) + at_key(1, [7]))
        for last in (0, 1, 2, 35, 300, 65535):
            wrong = fields[:]
            wrong[7] = signs(last, 16)
            self.assert_refused("".join(wrong), 59)
        for kind, last in ((BITS, 34), (BITS, 259), (RUNS, 4), (RUNS, 259), (LIST, 35)):
            wrong = fields[:6] + [signs(kind, 2), signs(last, 16)]
            self.assert_refused("".join(wrong), 59)

    def test_last_at_its_edges_goes_on(self):
        for kind, many in ((LIST, 1), (LIST, 32), (BITS, 33), (BITS, 256), (RUNS, 3), (RUNS, 256)):
            tape = one_stretch(kind, many, 0, [])
            self.assert_refused(tape[:35], 35)
            self.assert_refused(tape, 35)

    def test_stop(self):
        wrong = [(LIST, 5, stop) for stop in (0, 4, 6, 16383)] + [(BITS, 40, stop) for stop in (0, 31, 33, 40, 16383)]
        wrong += [(RUNS, 200, stop) for stop in (0, 1, 3, 29, 31, 32, 34, 16383)]
        wrong += [(RUNS, 3, 4), (RUNS, 4, 4), (RUNS, 30, 30), (RUNS, 10, 12), (RUNS, 10, 10)]
        for kind, many, stop in wrong:
            self.assert_refused(one_stretch(kind, many, stop, ["0" * 400]), 35)
            self.assert_refused(one_stretch(kind, many, stop, []), 35)

    def test_stop_at_its_edges_goes_on(self):
        for kind, many, stop in ((LIST, 5, 5), (BITS, 40, 32), (RUNS, 3, 2), (RUNS, 31, 30), (RUNS, 11, 10)):
            self.assert_refused(one_stretch(kind, many, stop, []), 49)

    def test_stop_of_a_later_head(self):
        fields = tape_fields(at_key(0, [1, 2, 9]) + at_key(1, [7]))
        for stop in (0, 1, 2, 3, 5, 16383):
            wrong = fields[:]
            wrong[8] = signs(stop, 14)
            self.assert_refused("".join(wrong), 75)


class Bodies(Tapes):
    """Point 45."""

    def test_a_place_of_a_list(self):
        self.assert_refused(one_stretch(LIST, 2, 2, eights(7, 7)), 57)
        self.assert_refused(one_stretch(LIST, 2, 2, eights(7, 6)), 57)
        self.assert_refused(one_stretch(LIST, 3, 3, eights(0, 255, 0)), 65)
        self.assert_refused(one_stretch(LIST, 3, 3, eights(9, 3)), 57)
        self.assert_read(one_stretch(LIST, 2, 2, eights(0, 255)), [0, 255])

    def test_a_list_of_too_few_runs(self):
        for places in ([7, 8, 9], [0, 1, 2, 3, 5], [1, 2, 3, 253, 254, 255], EVERYTHING[:32]):
            tape = one_stretch(LIST, len(places), len(places), eights(*places))
            self.assert_refused(tape, 49)
            self.assert_refused(tape + "0", 49)
        for places in ([7, 8], [7, 8, 10, 11], [1, 2, 3, 7], [0, 1, 2, 254, 255][:4], EVERYTHING[0:64:2]):
            self.assert_read(one_stretch(LIST, len(places), len(places), eights(*places)), places)

    def test_the_field_of_bits(self):
        good = EVERYTHING[::2]
        self.assert_read(one_stretch(BITS, 128, 32, [bits_of(good)]), good)
        for many in (33, 127, 129, 256):
            self.assert_refused(one_stretch(BITS, many, 32, [bits_of(good)]), 49)
        fifteen = [p for p in EVERYTHING[:240] if p % 16 < 3]
        sixteen = [p for p in EVERYTHING if p % 16 < 3]
        self.assert_refused(one_stretch(BITS, len(fifteen), 32, [bits_of(fifteen)]), 49)
        self.assert_read(one_stretch(BITS, len(sixteen), 32, [bits_of(sixteen)]), sixteen)
        self.assert_refused(one_stretch(BITS, 256, 32, ["1" * 256]), 49)
        self.assert_refused(one_stretch(BITS, 128, 32, [bits_of(good)[:-1]]), 49 + 255)

    def test_a_first_of_runs(self):
        for first in (0, 5, 9, 10):
            self.assert_refused(one_stretch(RUNS, 20, 4, eights(5, 9, first)), 65)
            self.assert_refused(one_stretch(RUNS, 20, 4, eights(5, 9, first, 200)), 65)
        self.assert_read(one_stretch(RUNS, 6, 4, eights(5, 9, 11, 11)), [5, 6, 7, 8, 9, 11])

    def test_a_last_of_runs(self):
        self.assert_refused(one_stretch(RUNS, 3, 2, eights(9, 8)), 57)
        self.assert_refused(one_stretch(RUNS, 3, 2, eights(9, 0)), 57)
        self.assert_refused(one_stretch(RUNS, 9, 4, eights(5, 9, 20, 19)), 73)

    def test_runs_of_another_number_of_places(self):
        for runs, many in ((eights(5, 9), 4), (eights(5, 9), 6), (eights(5, 5), 3), (eights(0, 255), 255)):
            self.assert_refused(one_stretch(RUNS, many, 2, runs), 49)
        self.assert_refused(one_stretch(RUNS, 9, 4, eights(5, 9, 20, 24)), 49)
        self.assert_read(one_stretch(RUNS, 10, 4, eights(5, 9, 20, 24)), [5, 6, 7, 8, 9, 20, 21, 22, 23, 24])

    def test_of_a_later_body(self):
        fields = tape_fields(at_key(0, [1, 9]) + at_key(1, [7, 9]) + at_key(2, range(10, 20)))
        begin = 9 + 3 * 40
        self.assert_refused("".join(fields[:13] + eights(1, 9, 7, 7) + fields[17:]), begin + 24)
        self.assert_read("".join(fields[:13] + eights(1, 9, 0, 1) + fields[17:]), [1, 9, 256, 257, *range(522, 532)])
        self.assert_refused("".join(fields[:13] + eights(1, 9, 7, 9, 10, 18)), begin + 32)
        self.assert_refused("".join(fields[:13] + eights(1, 9, 7, 9, 10, 9)), begin + 40)


class WhichComesFirst(Tapes):
    """Point 43: of two faults."""

    def test_from_the_left(self):
        self.assert_refused(one_stretch(3, 65536, 16383, eights(7, 7)), 17)
        self.assert_refused(one_stretch(LIST, 40, 39, []), 19)
        self.assert_refused(one_stretch(LIST, 3, 2, eights(7, 7, 7)), 35)
        self.assert_refused(one_stretch(LIST, 3, 3, eights(7, 8, 8)), 65)
        self.assert_refused(one_stretch(LIST, 3, 3, eights(7, 8, 9)), 49)
        self.assert_refused(one_stretch(LIST, 3, 3, eights(7, 8, 9)) + "1", 49)
        self.assert_refused(one_stretch(RUNS, 4, 2, eights(7, 6)), 57)
        self.assert_refused(one_stretch(RUNS, 200, 4, eights(7, 9, 9)), 65)

    def test_an_end_and_a_fault(self):
        self.assert_refused(one_stretch(LIST, 2, 2, eights(7, 6))[:-1], 64)
        self.assert_refused(one_stretch(LIST, 4, 4, eights(7, 8, 9)), 73)
        self.assert_refused(one_stretch(RUNS, 200, 4, eights(7, 9)), 65)

    def test_heads_ahead_of_bodies(self):
        fields = tape_fields(at_key(0, [1, 2]) + at_key(1, [7]))
        fields[9:11] = eights(2, 2)
        self.assert_refused("".join(fields), 97)
        fields[8] = signs(9, 14)
        self.assert_refused("".join(fields), 75)


class TheVeryTape(Tapes):
    """Point 46."""

    def test_each_tape_is_read_as_its_set(self):
        for numbers in taped_sets():
            tape = plain_tape(numbers)
            self.assertEqual(written(marks_of(numbers)), tape)
            self.assert_read(tape, numbers)

    def assert_refused_or_the_very_tape(self, tape):
        try:
            marks = read(tape)
        except BadTape as refusal:
            self.assertTrue(0 <= refusal.place <= len(tape))
            return 0
        self.assertEqual(written(marks), tape)
        self.assert_marks(marks, marks.numbers())
        return 1

    def test_one_sign_turned(self):
        answers = set()
        for numbers in ([], [7], [3, 4, 9, 200], EVERYTHING[::2], EVERYTHING[5:50] + [200], SEVERAL):
            tape = plain_tape(numbers)
            for place in range(len(tape)):
                turned = tape[:place] + ("1" if tape[place] == "0" else "0") + tape[place + 1:]
                answers.add(self.assert_refused_or_the_very_tape(turned))
        self.assertEqual(answers, {0, 1})

    def test_several_turned_and_drawn(self):
        source = random.Random(46)
        for k in range(1500):
            tape = list(plain_tape(source.choice(taped_sets()[:16])))
            for turn in range(source.randrange(1, 5)):
                place = source.randrange(len(tape))
                tape[place] = source.choice("01")
            self.assert_refused_or_the_very_tape("".join(tape))

    def test_bodies_drawn(self):
        source = random.Random(45)
        for k in range(1500):
            kind = source.choice((LIST, RUNS))
            many = source.choice((1, 2, 3, 4, 5, 8, 12))
            places = sorted(source.sample(range(source.choice((14, 40, 256))), source.choice((2, 4, 6, 8))))
            length = len(places) if kind == RUNS else many
            self.assert_refused_or_the_very_tape(one_stretch(kind, many, length, eights(*places)))

    def test_what_is_read_is_the_askers_own(self):
        tape = plain_tape(SEVERAL)
        read(tape).put_span(0, 65535)
        self.assert_read(tape, SEVERAL)

    def test_fields_by_hand(self):
        self.assertEqual(body_fields("runs", [(1, 5)]), eights(1, 5))


if __name__ == "__main__":
    unittest.main()
