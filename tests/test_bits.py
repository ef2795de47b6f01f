"""Points 2 and 4 to 9: what a whole number is, and words."""

import random
import unittest

from examples import Checks, plain_runs, plain_word, some_sets
from runmarks.bits import (
    bit_at, bits_text, counted, first_one, is_whole, last_one, number_of, one_at, ones_below, places_of,
    pushed, runs_of, span_word, word_of, word_of_runs,
)

ALL = 2 ** 256 - 1


class Sets(Checks):
    def each_set(self):
        return [(places, plain_word(places)) for places in some_sets()]


class Whole(Sets):
    """Point 2."""

    def test_whole_numbers(self):
        for thing in (0, 1, -1, 2, 255, 65535, 65536, 10 ** 99, 10 ** 100 - 1, -(10 ** 99), ALL):
            with self.subTest(thing=thing):
                self.assertIs(is_whole(thing), True)

    def test_other_things(self):
        for thing in (True, False, None, "", "0", "17", [], [1], (), (1,), {}, {1: 1}, 1.0, 0.5, set(), b"1", int):
            with self.subTest(thing=thing):
                self.assertIs(is_whole(thing), False)


class Ends(Sets):
    """Point 4."""

    def test_no_ones(self):
        self.assertIsNone(first_one(0))
        self.assertIsNone(last_one(0))

    def test_one_place(self):
        for place in range(256):
            self.same(first_one(2 ** place), place)
            self.same(last_one(2 ** place), place)

    def test_places_0_and_255(self):
        self.same(first_one(2 ** 255 + 1), 0)
        self.same(last_one(2 ** 255 + 1), 255)
        self.same(first_one(ALL), 0)
        self.same(last_one(ALL), 255)

    def test_sets(self):
        for places, word in self.each_set():
            self.same(first_one(word), places[0])
            self.same(last_one(word), places[-1])


class Asked(Sets):
    """Point 5."""

    def test_bits(self):
        for places, word in self.each_set():
            self.assertEqual([p for p in range(256) if bit_at(word, p) == 1], places)
            self.assertEqual([p for p in range(256) if bit_at(word, p) == 0], sorted(set(range(256)) - set(places)))

    def test_bits_at_the_edges(self):
        self.same(bit_at(1, 0), 1)
        self.same(bit_at(ALL - 1, 0), 0)
        self.same(bit_at(2 ** 255, 255), 1)
        self.same(bit_at(2 ** 255 - 1, 255), 0)
        for place in range(256, 1000):
            self.same(bit_at(ALL, place), 0)
            self.same(bit_at(0, place), 0)

    def test_counted(self):
        self.same(counted(0), 0)
        self.same(counted(ALL), 256)
        self.same(counted(2 ** 255), 1)
        for places, word in self.each_set():
            self.same(counted(word), len(places))

    def test_ones_below(self):
        for places, word in self.each_set():
            for place in range(257):
                self.same(ones_below(word, place), len([p for p in places if p < place]))

    def test_ones_below_at_the_edges(self):
        self.assertEqual([ones_below(ALL, place) for place in (0, 1, 255, 256)], [0, 1, 255, 256])
        self.assertEqual([ones_below(0, place) for place in (0, 1, 255, 256)], [0, 0, 0, 0])
        self.assertEqual([ones_below(2 ** 255, place) for place in (0, 255, 256)], [0, 0, 1])
        self.assertEqual([ones_below(1, place) for place in (0, 1, 256)], [0, 1, 1])

    def test_one_at(self):
        for places, word in self.each_set():
            self.assertEqual([one_at(word, k) for k in range(len(places))], places)
            self.same(one_at(word, 0), places[0])
            self.same(one_at(word, len(places) - 1), places[-1])

    def test_one_at_the_edges(self):
        self.assertEqual([one_at(ALL, k) for k in (0, 1, 254, 255)], [0, 1, 254, 255])
        self.same(one_at(2 ** 255, 0), 255)


class Places(Sets):
    """Point 6."""

    def test_no_places(self):
        self.same(word_of([]), 0)
        self.assertEqual(places_of(0), [])

    def test_any_order_and_twice(self):
        self.same(word_of([3, 0, 3, 255, 0, 3]), 2 ** 255 + 9)
        source = random.Random(6)
        for places, word in self.each_set():
            self.same(word_of(places), word)
            self.same(word_of(places[::-1]), word)
            many_times = places * 3
            source.shuffle(many_times)
            self.same(word_of(many_times), word)

    def test_a_long_list(self):
        self.same(word_of([place % 256 for place in range(70000)]), ALL)

    def test_places_rise_each_once(self):
        for places, word in self.each_set():
            told = places_of(word)
            self.assertEqual(told, places)
            self.assertTrue(all(type(place) is int for place in told))

    def test_the_list_handed_in_stays(self):
        places = [9, 2, 9, 0, 255]
        word_of(places)
        self.assertEqual(places, [9, 2, 9, 0, 255])

    def test_a_told_list_is_the_askers_own(self):
        for word, places in ((0, []), (37, [0, 2, 5])):
            told = places_of(word)
            told.append(99)
            told[0] = 98
            self.assertEqual(places_of(word), places)

    def test_spans(self):
        for place in range(256):
            self.same(span_word(place, place), 2 ** place)
        self.same(span_word(0, 255), ALL)
        for first in range(0, 256, 5):
            for last in range(first, 256):
                self.same(span_word(first, last), plain_word(range(first, last + 1)))


class Runs(Sets):
    """Point 7."""

    def test_runs_at_the_edges(self):
        self.assertEqual(runs_of(0), [])
        self.assertEqual(runs_of(ALL), [(0, 255)])
        self.assertEqual(runs_of(2 ** 255 + 1), [(0, 0), (255, 255)])
        self.assertEqual(runs_of(ALL - 2 ** 7), [(0, 6), (8, 255)])
        for place in range(256):
            self.assertEqual(runs_of(2 ** place), [(place, place)])

    def test_runs(self):
        for places, word in self.each_set():
            told = runs_of(word)
            self.assertEqual(told, plain_runs(places))
            self.assertTrue(all(type(run) is tuple and type(run[0]) is type(run[1]) is int for run in told))
            self.same(word_of_runs(told), word)

    def test_a_word_of_runs(self):
        self.same(word_of_runs([]), 0)
        self.same(word_of_runs([(0, 255)]), ALL)
        self.same(word_of_runs([(255, 255), (0, 0)]), 2 ** 255 + 1)

    def test_runs_in_any_order_and_overlapping(self):
        self.same(word_of_runs([(5, 9), (0, 1), (7, 12), (5, 9), (8, 8), (13, 13)]), plain_word([0, 1, *range(5, 14)]))
        source = random.Random(7)
        for many in range(1, 20):
            runs = [tuple(sorted(source.choices(range(256), k=2))) for k in range(many)]
            wanted = {place for first, last in runs for place in range(first, last + 1)}
            self.same(word_of_runs(runs), plain_word(wanted))

    def test_the_list_handed_in_stays(self):
        runs = [(8, 9), (0, 3), (2, 5)]
        word_of_runs(runs)
        self.assertEqual(runs, [(8, 9), (0, 3), (2, 5)])

    def test_a_told_list_is_the_askers_own(self):
        for word, runs in ((0, []), (27, [(0, 1), (3, 4)])):
            told = runs_of(word)
            told.append((99, 99))
            told[0] = (98, 98)
            self.assertEqual(runs_of(word), runs)


class Pushed(Sets):
    """Point 8."""

    def test_at_the_edges(self):
        self.same(pushed(0, 0), (0, 0))
        self.same(pushed(0, 255), (0, 0))
        self.same(pushed(ALL, 0), (ALL, 0))
        self.same(pushed(2 ** 255, 0), (2 ** 255, 0))
        self.same(pushed(2 ** 255, 1), (0, 1))
        self.same(pushed(2 ** 255, 255), (0, 2 ** 254))
        self.same(pushed(1, 255), (2 ** 255, 0))
        self.same(pushed(ALL, 255), (2 ** 255, 2 ** 255 - 1))

    def test_low_and_high_together(self):
        for places, word in self.each_set():
            for by in range(256):
                low, high = pushed(word, by)
                self.assertTrue(0 <= low <= ALL and 0 <= high <= ALL)
                self.assertEqual(low + 2 ** 256 * high, word * 2 ** by)


class Texts(Sets):
    """Point 9."""

    def test_written(self):
        self.same(bits_text(0, 0), "")
        self.same(bits_text(0, 1), "0")
        self.same(bits_text(1, 1), "1")
        self.same(bits_text(6, 3), "110")
        self.same(bits_text(6, 8), "00000110")
        self.same(bits_text(ALL, 256), "1" * 256)
        self.same(bits_text(0, 256), "0" * 256)
        self.same(bits_text(1, 400), "0" * 399 + "1")
        self.same(bits_text(2 ** 399, 400), "1" + "0" * 399)

    def test_numbers(self):
        self.same(number_of(""), 0)
        self.same(number_of("0"), 0)
        self.same(number_of("1"), 1)
        self.same(number_of("110"), 6)
        self.same(number_of("00000110"), 6)
        self.same(number_of("0" * 400), 0)
        self.same(number_of("1" * 400), 2 ** 400 - 1)

    def test_text_and_number_lead_to_one_another(self):
        source = random.Random(9)
        for many in range(401):
            number = source.getrandbits(many) if many else 0
            text = bits_text(number, many)
            self.assertEqual(len(text), many)
            self.assertEqual(text, format(number, f"0{many}b") if many else "")
            self.same(number_of(text), number)
            self.same(bits_text(number_of(text), many), text)


if __name__ == "__main__":
    unittest.main()
