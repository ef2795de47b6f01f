"""Points 13 to 16: sizes, kept stretches, places put in and taken out."""

import random
import unittest

from examples import Checks, plain_kept, plain_runs, plain_word, some_sets, three_kinds
from runmarks.bits import places_of
from runmarks.kept import added, kept, removed, sizes
from runmarks.stretches import BitStretch, ListStretch, RunStretch

CLASSES = {"list": ListStretch, "bits": BitStretch, "runs": RunStretch}
EVERYTHING = list(range(256))


def shaped(many, runs):
    """A rising list of so many places in so many runs: single places, and one run of all the others."""
    single = list(range(0, 2 * (runs - 1), 2))
    return single + list(range(2 * runs, 2 * runs + many - len(single)))


class Kept(Checks):
    def assert_kept(self, stretch, places):
        self.assertEqual(stretch.told(), plain_kept(places))
        self.assertIs(type(stretch), CLASSES[stretch.kind()])
        self.assertEqual(stretch.word(), plain_word(places))


class Sizes(Kept):
    """Point 13."""

    def test_the_word_0(self):
        self.same(sizes(0), (0, 32, 0))

    def test_sizes(self):
        for places in some_sets():
            self.same(sizes(plain_word(places)), (len(places), 32, 2 * len(plain_runs(places))))

    def test_sizes_at_the_edges(self):
        self.same(sizes(2 ** 256 - 1), (256, 32, 2))
        self.same(sizes(2 ** 255), (1, 32, 2))
        self.same(sizes(2 ** 255 + 1), (2, 32, 4))
        self.same(sizes(plain_word(EVERYTHING[1::2])), (128, 32, 256))
        self.assertTrue(all(type(size) is int for size in sizes(5)))

    def test_shaped(self):
        for many, runs in ((1, 1), (32, 16), (33, 16), (33, 15), (7, 3), (240, 8)):
            self.assertEqual((len(shaped(many, runs)), len(plain_runs(shaped(many, runs)))), (many, runs))


class KeptStretch(Kept):
    """Points 14 and 15."""

    def test_the_word_0(self):
        self.assertIsNone(kept(0))

    def test_sets(self):
        for places in some_sets():
            self.assert_kept(kept(plain_word(places)), places)

    def test_each_number_of_places_and_runs(self):
        for runs in range(1, 40):
            for many in range(runs, min(257 - 2 * runs, 90)):
                stretch = kept(plain_word(shaped(many, runs)))
                wanted = "list" if many <= 32 and many <= 2 * runs else "bits" if runs >= 16 else "runs"
                self.assertEqual(stretch.kind(), wanted, (many, runs))
                self.assert_kept(stretch, shaped(many, runs))

    def test_the_edges_one_by_one(self):
        for many, runs, kind in (
            (32, 16, "list"), (33, 16, "bits"), (32, 32, "list"), (33, 33, "bits"), (33, 15, "runs"),
            (2, 1, "list"), (3, 1, "runs"), (10, 5, "list"), (11, 5, "runs"), (30, 15, "list"), (31, 15, "runs"),
            (31, 16, "list"), (100, 15, "runs"), (100, 16, "bits"), (1, 1, "list"),
        ):
            self.assertEqual(kept(plain_word(shaped(many, runs))).kind(), kind, (many, runs))

    def test_all_256_places(self):
        self.same(kept(2 ** 256 - 1).told(), ("runs", [(0, 255)]))

    def test_the_same_set_by_other_deeds(self):
        source = random.Random(15)
        for places in some_sets():
            order = places[:]
            source.shuffle(order)
            too_many = source.sample(range(256), 20)
            stretch = kept(1 << order[0])
            for place in order + too_many:
                stretch = added(stretch, place)
            for place in too_many:
                if place not in places:
                    stretch = removed(stretch, place)
            self.assertEqual(stretch.told(), kept(plain_word(places)).told())

    def test_unlike_words_are_told_unlike(self):
        told = [repr(kept(plain_word(places)).told()) for places in some_sets()]
        words = [plain_word(places) for places in some_sets()]
        self.assertEqual(len(set(told)), len(set(words)))

    def test_a_told_body_is_the_askers_own(self):
        for word in (9, 255):
            stretch = kept(word)
            before = stretch.told()
            stretch.body().append(77)
            stretch.told()[1].append(78)
            self.assertEqual(stretch.told(), before)
            self.assertEqual(kept(word).told(), before)


class PutAndTaken(Kept):
    """Point 16."""

    def test_each_place_of_each_kind(self):
        for places in some_sets()[::3]:
            for stretch in three_kinds(places):
                before = stretch.told()
                for place in range(256):
                    self.assert_kept(added(stretch, place), sorted({*places, place}))
                    left = sorted({*places} - {place})
                    if left:
                        self.assert_kept(removed(stretch, place), left)
                    else:
                        self.assertIsNone(removed(stretch, place))
                self.assertEqual(stretch.told(), before)

    def test_there_already_or_not_there(self):
        for stretch in three_kinds([5]):
            self.assertEqual(added(stretch, 5).told(), ("list", [5]))
            self.assertEqual(removed(stretch, 6).told(), ("list", [5]))
        for stretch in three_kinds(EVERYTHING):
            self.assertEqual(added(stretch, 0).told(), ("runs", [(0, 255)]))
            self.assertEqual(removed(stretch, 255).told(), ("runs", [(0, 254)]))

    def test_the_last_place_taken(self):
        for place in (0, 1, 128, 255):
            for stretch in three_kinds([place]):
                self.assertIsNone(removed(stretch, place))
                self.assertEqual(stretch.many(), 1)

    def test_over_the_edges_of_the_kinds(self):
        thirty_two = kept(plain_word(shaped(32, 16)))
        more = added(thirty_two, 255)
        self.assertEqual((thirty_two.kind(), more.kind(), removed(more, 255).kind()), ("list", "bits", "list"))
        two = kept(plain_word([4, 5]))
        three = added(two, 6)
        self.assertEqual((two.told(), three.told()), (("list", [4, 5]), ("runs", [(4, 6)])))
        self.assertEqual(removed(three, 5).told(), ("list", [4, 6]))

    def test_long_rows_of_deeds(self):
        source = random.Random(16)
        stretch, held = kept(1 << 77), {77}
        for k in range(3000):
            place = source.randrange(256)
            if source.random() < (0.9 if k % 1000 < 500 else 0.1):
                stretch, held = added(stretch, place), held | {place}
            elif held - {place}:
                stretch, held = removed(stretch, place), held - {place}
            self.assertEqual(places_of(stretch.word()), sorted(held))
            self.assert_kept(stretch, sorted(held))


if __name__ == "__main__":
    unittest.main()
