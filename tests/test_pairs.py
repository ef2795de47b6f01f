"""Point 30: two stretches laid together."""

import unittest

from examples import Checks, plain_kept, some_sets, three_kinds
from runmarks.kept import kept
from runmarks.pairs import pair_common, pair_either, pair_joined, pair_less, pair_shared
from runmarks.stretches import BitStretch, ListStretch, RunStretch

CLASSES = {"list": ListStretch, "bits": BitStretch, "runs": RunStretch}
FOUR = (
    (pair_common, lambda one, other: one & other),
    (pair_joined, lambda one, other: one | other),
    (pair_less, lambda one, other: one - other),
    (pair_either, lambda one, other: one ^ other),
)


class Pairs(Checks):
    def assert_laid(self, one, other):
        held, others = (set(self.places(stretch)) for stretch in (one, other))
        for laid, plainly in FOUR:
            answer, wanted = laid(one, other), sorted(plainly(held, others))
            if wanted:
                self.assertEqual(answer.told(), plain_kept(wanted))
                self.assertIs(type(answer), CLASSES[answer.kind()])
            else:
                self.assertIsNone(answer)
        self.same(pair_shared(one, other), len(held & others))

    def places(self, stretch):
        return [place for place in range(256) if stretch.has(place)]

    def test_all_kinds(self):
        sets = some_sets()[::2]
        for at, places in enumerate(sets):
            for others in (sets[at - 1], sets[at - 7], sets[at - 12], places):
                for one in three_kinds(places):
                    for other in three_kinds(others):
                        self.assert_laid(one, other)

    def test_kept_ones(self):
        words = [kept(sum(2 ** place for place in places)) for places in some_sets()]
        for one in words[::3]:
            for other in words[::2]:
                self.assert_laid(one, other)

    def test_nothing_in_common(self):
        even, odd = list(range(0, 256, 2)), list(range(1, 256, 2))
        for one in three_kinds(even):
            for other in three_kinds(odd):
                self.assertIsNone(pair_common(one, other))
                self.assertEqual(pair_joined(one, other).told(), ("runs", [(0, 255)]))
                self.assertEqual(pair_either(one, other).told(), ("runs", [(0, 255)]))
                self.assertEqual(pair_less(one, other).told(), ("bits", one.word()))
                self.same(pair_shared(one, other), 0)

    def test_all_in_common(self):
        for places in ([0], [255], [3, 4, 9], list(range(256)), list(range(0, 256, 2))):
            for one in three_kinds(places):
                for other in three_kinds(places):
                    self.assertIsNone(pair_less(one, other))
                    self.assertIsNone(pair_either(one, other))
                    self.assertEqual(pair_common(one, other).told(), plain_kept(places))
                    self.assertEqual(pair_joined(one, other).told(), plain_kept(places))
                    self.same(pair_shared(one, other), len(places))

    def test_less_is_not_turned_round(self):
        for one in three_kinds([1, 2]):
            for other in three_kinds([2, 3]):
                self.assertEqual(pair_less(one, other).told(), ("list", [1]))
                self.assertEqual(pair_less(other, one).told(), ("list", [3]))

    def test_the_stretches_stay(self):
        for one in three_kinds([1, 2, 9]):
            for other in three_kinds([2, 3, 4, 255]):
                before = (one.told(), other.told())
                for laid, plainly in FOUR:
                    answer = laid(one, other)
                    if answer.kind() != "bits":
                        answer.body().append(0)
                pair_shared(one, other)
                self.assertEqual((one.told(), other.told()), before)


if __name__ == "__main__":
    unittest.main()
