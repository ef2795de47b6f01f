"""Points 47 and 48: tapes looked at as they stand."""

import random
import unittest

from examples import NO_NUMBERS, NO_WHOLE, MarksChecks, at_key
from plain_tapes import EVERYTHING, plain_tape, taped_sets
from runmarks.errors import NoNumber, NoPlace
from runmarks.packed import packed_below, packed_chosen, packed_has, packed_many

CHEQUERED = [n for n in range(65536) if n % 2 == n // 256 % 2]
LISTS_ALL_OVER = [n for n in range(65536) if n % 8 == 0]
RUNS_ALL_OVER = [n for n in range(65536) if n % 17 < 8]


def looked_at():
    sets = [[], at_key(5, [9, 77]), at_key(5, EVERYTHING[::2]), at_key(5, EVERYTHING[3:200]), at_key(0, EVERYTHING)]
    sets += [CHEQUERED, LISTS_ALL_OVER, RUNS_ALL_OVER, list(range(65536)), list(range(7, 65536, 256))]
    return sets + taped_sets()


def asked_of(numbers):
    """Numbers there and not there, in keys there and not there, below the first and above the last."""
    near = [n + step for n in numbers[:2] + numbers[-2:] + numbers[::3001] for step in (-256, -1, 0, 1, 256)]
    return sorted({n for n in near if 0 <= n <= 65535} | {0, 255, 256, 1280, 1289, 1290, 30000, 65280, 65535})


def kth(numbers):
    return sorted({k for k in (0, 1, 31, 32, 128, len(numbers) // 2, len(numbers) - 1) if 0 <= k < len(numbers)})


def questions_of(tape, numbers):
    """Each question of a tape as a function of a text."""
    questions = [packed_many]
    for n in asked_of(numbers):
        questions.append(lambda text, n=n: packed_has(text, n))
        questions.append(lambda text, n=n: packed_below(text, n))
    for k in kth(numbers):
        questions.append(lambda text, k=k: packed_chosen(text, k))
    return questions


def turned_outside(tape, spans, turn):
    inside = {place for first, end in spans for place in range(first, end)}
    return "".join(sign if place in inside else turn(sign) for place, sign in enumerate(tape))


class Answers(MarksChecks):
    """Point 47."""

    def assert_answer(self, told, wanted, tape):
        self.assertIs(type(told), tuple)
        answer, spans = told
        self.same(answer, wanted)
        self.assertIs(type(spans), list)
        for span in spans:
            self.assertIs(type(span), tuple)
            first, end = span
            self.assertTrue(type(first) is int and type(end) is int)
            self.assertTrue(0 <= first < end <= len(tape), span)
        self.assertLessEqual(sum(end - first for first, end in spans), 700)

    def test_the_four_questions(self):
        for numbers in looked_at():
            tape, held = plain_tape(numbers), set(numbers)
            self.assert_answer(packed_many(tape), len(numbers), tape)
            for n in asked_of(numbers):
                self.assert_answer(packed_has(tape, n), n in held, tape)
                self.assert_answer(packed_below(tape, n), len([m for m in numbers if m < n]), tape)
            for k in kth(numbers):
                self.assert_answer(packed_chosen(tape, k), numbers[k], tape)

    def test_each_number_of_some_sets(self):
        for numbers in (at_key(5, [9, 77]), at_key(1, EVERYTHING[::2]) + at_key(3, EVERYTHING[3:100])):
            tape = plain_tape(numbers)
            for n in range(1600):
                self.assert_answer(packed_has(tape, n), n in numbers, tape)
                self.assert_answer(packed_below(tape, n), len([m for m in numbers if m < n]), tape)
            for k in range(len(numbers)):
                self.assert_answer(packed_chosen(tape, k), numbers[k], tape)

    def test_the_empty_set(self):
        tape = "0" * 9
        self.assert_answer(packed_many(tape), 0, tape)
        for n in (0, 255, 65535):
            self.assert_answer(packed_has(tape, n), False, tape)
            self.assert_answer(packed_below(tape, n), 0, tape)
        for k in (0, 1, -1) + NO_WHOLE:
            with self.assertRaises(NoPlace):
                packed_chosen(tape, k)

    def test_a_body_is_not_taken_for_a_head(self):
        for numbers in ([9], [9, 77], at_key(3, [200]), at_key(3, EVERYTHING[100:200]), at_key(1, [5]) + at_key(2, [50, 60])):
            tape = plain_tape(numbers)
            for n in range(0, 65536, 256):
                for place in (9, 100, 255):
                    self.assert_answer(packed_has(tape, n + place), n + place in numbers, tape)
                    self.assert_answer(packed_below(tape, n + place), len([m for m in numbers if m < n + place]), tape)

    def test_no_number(self):
        for numbers in ([], [7], CHEQUERED):
            tape = plain_tape(numbers)
            for thing in NO_NUMBERS:
                with self.assertRaises(NoNumber):
                    packed_has(tape, thing)
                with self.assertRaises(NoNumber):
                    packed_below(tape, thing)

    def test_no_place(self):
        for numbers in looked_at():
            tape = plain_tape(numbers)
            for k in (len(numbers), len(numbers) + 1, -1, 65536, 10 ** 99, -(10 ** 99)) + NO_WHOLE:
                with self.assertRaises(NoPlace):
                    packed_chosen(tape, k)

    def test_told_spans_are_the_askers_own(self):
        tape = plain_tape([7, 300])
        before = packed_below(tape, 300)
        packed_below(tape, 300)[1].clear()
        self.assertEqual(packed_below(tape, 300), before)


class OnWhatTheyHang(MarksChecks):
    """Point 48."""

    def test_all_other_signs_turned(self):
        source = random.Random(48)
        turns = (lambda sign: "1" if sign == "0" else "0", lambda sign: "0", lambda sign: "1",
                 lambda sign: source.choice("01"))
        for numbers in looked_at()[:8] + looked_at()[14:20]:
            tape = plain_tape(numbers)
            for question in questions_of(tape, numbers)[::5]:
                told = question(tape)
                for turn in turns:
                    text = turned_outside(tape, told[1], turn)
                    self.assertEqual(len(text), len(tape))
                    self.assertEqual(question(text), told)

    def test_some_sign_in_a_span_is_needed(self):
        tape = plain_tape([5])
        self.assertEqual(packed_has(tape, 5)[0], True)
        self.assertEqual(packed_has(plain_tape([4]), 5)[0], False)

    def test_texts_that_are_no_tapes(self):
        source = random.Random(49)
        for k in range(400):
            text = "".join(source.choice("0001") for sign in range(source.choice((0, 3, 9, 40, 60, 400, 3000))))
            for question in questions_of(text, [5, 600, 60000]):
                told = self.told_or_refused(question, text)
                if told is not None:
                    self.assertTrue(all(0 <= first < end <= len(text) for first, end in told[1]))
                    other = turned_outside(text, told[1], lambda sign: "1" if sign == "0" else "0")
                    self.assertEqual(question(other), told)
                    self.assertEqual(question(text), told)

    def told_or_refused(self, question, text):
        try:
            return question(text)
        except NoPlace:
            return None


if __name__ == "__main__":
    unittest.main()
