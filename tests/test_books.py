"""Points 26 and 27, and 28 of how many looks there are: halving."""

import random
import unittest

from examples import Checks
from runmarks.books import halved_counts, halved_keys

LONG = list(range(0, 65536, 256))


def lists():
    source = random.Random(26)
    drawn = [sorted(source.sample(range(-50, 1000), many)) for many in (4, 5, 7, 8, 9, 31, 100, 255)]
    return [[], [7], [3, 9], [1, 5, 6], [-4, 0, 10 ** 99], LONG, list(range(256))] + drawn


def wanted_keys(keys):
    beside = [key + step for key in keys for step in (-1, 0, 1)]
    return beside + [0, -1, 10 ** 99, -(10 ** 99), 65536]


class Keys(Checks):
    """Point 26."""

    def test_the_place_of_the_first_key_not_less(self):
        for keys in lists():
            for wanted in wanted_keys(keys):
                at, looks = halved_keys(keys, wanted)
                self.same(at, len([key for key in keys if key < wanted]))

    def test_no_keys(self):
        self.same(halved_keys([], 5), (0, []))

    def test_the_looks_one_by_one(self):
        self.same(halved_keys([7], 6), (0, [0]))
        self.same(halved_keys([7], 7), (0, [0]))
        self.same(halved_keys([7], 8), (1, [0]))
        self.same(halved_keys([3, 9], 2), (0, [1, 0]))
        self.same(halved_keys([3, 9], 9), (1, [1, 0]))
        self.same(halved_keys([3, 9], 10), (2, [1]))
        self.same(halved_keys([1, 5, 6], 0), (0, [1, 0]))
        self.same(halved_keys([1, 5, 6], 5), (1, [1, 0]))
        self.same(halved_keys([1, 5, 6], 6), (2, [1, 2]))
        self.same(halved_keys([1, 5, 6], 7), (3, [1, 2]))
        self.same(halved_keys(list(range(256)), 0), (0, [128, 64, 32, 16, 8, 4, 2, 1, 0]))
        self.same(halved_keys(list(range(256)), 255), (255, [128, 192, 224, 240, 248, 252, 254, 255]))

    def test_each_look_follows_from_the_one_before(self):
        for keys in lists():
            for wanted in wanted_keys(keys):
                low, high = 0, len(keys)
                for look in halved_keys(keys, wanted)[1]:
                    self.same(look, (low + high) // 2)
                    low, high = (look + 1, high) if keys[look] < wanted else (low, look)
                self.assertEqual((low, high), (halved_keys(keys, wanted)[0],) * 2)

    def test_how_many_looks(self):
        for keys in lists():
            most = max(len(halved_keys(keys, wanted)[1]) for wanted in wanted_keys(keys))
            self.assertEqual(most, len(keys).bit_length())

    def test_the_list_handed_in_stays(self):
        keys = [1, 5, 6]
        halved_keys(keys, 5)
        self.assertEqual(keys, [1, 5, 6])


class Counts(Checks):
    """Point 27."""

    def each_list(self):
        source = random.Random(27)
        drawn = [[0] + sorted(source.sample(range(1, 5000), many)) for many in (1, 2, 3, 4, 6, 7, 30, 200)]
        return [[0], [0, 1], [0, 256], [0, 3, 4], LONG, list(range(256))] + drawn

    def test_the_place_of_the_last_count_at_most(self):
        for aheads in self.each_list():
            for k in sorted({max(0, ahead + step) for ahead in aheads for step in (-1, 0, 1)} | {10 ** 99}):
                at, looks = halved_counts(aheads, k)
                self.same(at, max(place for place, ahead in enumerate(aheads) if ahead <= k))
                low, high = 0, len(aheads)
                for look in looks:
                    self.same(look, (low + high) // 2)
                    low, high = (look + 1, high) if aheads[look] <= k else (low, look)
                self.assertEqual((low, high), (at + 1, at + 1))
                self.assertLessEqual(len(looks), len(aheads).bit_length())

    def test_the_looks_one_by_one(self):
        self.same(halved_counts([0], 0), (0, [0]))
        self.same(halved_counts([0], 900), (0, [0]))
        self.same(halved_counts([0, 4], 3), (0, [1, 0]))
        self.same(halved_counts([0, 4], 4), (1, [1]))
        self.same(halved_counts([0, 3, 4], 0), (0, [1, 0]))
        self.same(halved_counts([0, 3, 4], 3), (1, [1, 2]))
        self.same(halved_counts([0, 3, 4], 4), (2, [1, 2]))
        self.same(halved_counts(LONG, 255), (0, [128, 64, 32, 16, 8, 4, 2, 1, 0]))
        self.same(halved_counts(LONG, 65535), (255, [128, 192, 224, 240, 248, 252, 254, 255]))

    def test_the_list_handed_in_stays(self):
        aheads = [0, 3, 4]
        halved_counts(aheads, 3)
        self.assertEqual(aheads, [0, 3, 4])

    def test_told_lists_are_the_askers_own(self):
        for answer in (halved_keys, halved_counts):
            answer([0, 3, 4], 3)[1].append(9)
            self.assertEqual(answer([0, 3, 4], 3)[1][0], 1)
            self.assertNotIn(9, answer([0, 3, 4], 3)[1])


if __name__ == "__main__":
    unittest.main()
