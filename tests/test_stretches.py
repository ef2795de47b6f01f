"""Points 10, 11 and 12: stretches of the three kinds."""

import unittest

from examples import Checks, plain_runs, plain_word, some_sets, three_kinds
from runmarks.stretches import BitStretch, ListStretch, RunStretch, Stretch


class Sets(Checks):
    def each_stretch(self):
        return [(places, stretch) for places in some_sets() for stretch in three_kinds(places)]


class Classes(Sets):
    def test_who_stands_under_whom(self):
        three = (ListStretch, BitStretch, RunStretch)
        for one in three:
            self.assertTrue(issubclass(one, Stretch))
            for other in three:
                self.assertEqual(issubclass(one, other), one is other)


class Held(Sets):
    """Point 10."""

    def test_kind(self):
        for places in some_sets():
            self.assertEqual([stretch.kind() for stretch in three_kinds(places)], ["list", "bits", "runs"])

    def test_body_and_told(self):
        for places in some_sets():
            with self.subTest(places=places):
                bodies = [list(places), plain_word(places), plain_runs(places)]
                for stretch, kind, body in zip(three_kinds(places), ("list", "bits", "runs"), bodies):
                    self.same(stretch.body(), body)
                    self.same(stretch.told(), (kind, body))
                    self.assertIs(type(stretch.told()[1]), type(body))

    def test_runs_are_tuples(self):
        stretch = RunStretch([(0, 3), (5, 5), (250, 255)])
        self.assertTrue(all(type(run) is tuple for run in stretch.body()))
        self.assertTrue(all(type(run) is tuple for run in stretch.told()[1]))

    def test_the_list_it_was_made_of_may_be_changed(self):
        places, runs = [1, 2, 9], [(1, 2), (9, 9)]
        of_list, of_runs = ListStretch(places), RunStretch(runs)
        places.append(200)
        places[0] = 0
        runs.append((200, 200))
        runs[0] = (0, 2)
        self.assert_untouched(of_list, of_runs)

    def test_a_list_that_it_told_may_be_changed(self):
        of_list, of_runs = ListStretch([1, 2, 9]), RunStretch([(1, 2), (9, 9)])
        for told in (of_list.body(), of_list.told()[1], of_runs.body(), of_runs.told()[1]):
            told.append(200)
            told[0] = 0
        self.assert_untouched(of_list, of_runs)

    def test_the_list_handed_in_stays(self):
        places, runs = [1, 2, 9], [(1, 2), (9, 9)]
        for stretch in (ListStretch(places), RunStretch(runs)):
            answers = [stretch.told(), stretch.word(), stretch.many(), stretch.has(2), stretch.below(9)]
            answers += [stretch.chosen(1), stretch.onward(3), stretch.backward(3), stretch.size()]
            self.assertEqual(answers[1:-1], [518, 3, True, 2, 2, 9, 2])
        self.assertEqual((places, runs), ([1, 2, 9], [(1, 2), (9, 9)]))

    def assert_untouched(self, of_list, of_runs):
        self.assertEqual(of_list.told(), ("list", [1, 2, 9]))
        self.assertEqual(of_runs.told(), ("runs", [(1, 2), (9, 9)]))
        self.assertEqual((of_list.size(), of_runs.size()), (3, 4))
        for stretch in (of_list, of_runs):
            self.assertEqual(stretch.word(), 2 + 4 + 512)
            self.assertEqual(stretch.many(), 3)
            self.assertIs(stretch.has(200), False)
            self.assertIsNone(stretch.backward(0))


class Asked(Sets):
    """Point 11."""

    def test_word_and_many(self):
        for places, stretch in self.each_stretch():
            self.same(stretch.word(), plain_word(places))
            self.same(stretch.many(), len(places))

    def test_has(self):
        for places, stretch in self.each_stretch():
            held = set(places)
            for place in range(256):
                self.assertIs(stretch.has(place), place in held)

    def test_below(self):
        for places, stretch in self.each_stretch():
            self.same(stretch.below(0), 0)
            self.same(stretch.below(256), len(places))
            for place in range(257):
                self.same(stretch.below(place), len([p for p in places if p < place]))

    def test_chosen(self):
        for places, stretch in self.each_stretch():
            self.assertEqual([stretch.chosen(k) for k in range(len(places))], places)
            self.same(stretch.chosen(0), places[0])
            self.same(stretch.chosen(len(places) - 1), places[-1])

    def test_onward(self):
        for places, stretch in self.each_stretch():
            for place in range(256):
                self.same(stretch.onward(place), min([p for p in places if p >= place], default=None))

    def test_backward(self):
        for places, stretch in self.each_stretch():
            for place in range(256):
                self.same(stretch.backward(place), max([p for p in places if p <= place], default=None))

    def test_none_where_there_is_none(self):
        for stretch in three_kinds([7, 8, 100]):
            self.assertEqual((stretch.backward(6), stretch.backward(7)), (None, 7))
            self.assertEqual((stretch.onward(100), stretch.onward(101)), (100, None))
            self.assertEqual((stretch.onward(255), stretch.backward(0)), (None, None))

    def test_places_0_and_255(self):
        for stretch in three_kinds([0, 255]):
            self.assertEqual((stretch.onward(0), stretch.onward(1), stretch.onward(255)), (0, 255, 255))
            self.assertEqual((stretch.backward(0), stretch.backward(254), stretch.backward(255)), (0, 0, 255))
            self.assertEqual([stretch.below(place) for place in (0, 1, 255, 256)], [0, 1, 1, 2])


class Size(Sets):
    """Point 12."""

    def test_size(self):
        for places in some_sets():
            of_list, of_bits, of_runs = three_kinds(places)
            self.same(of_list.size(), len(places))
            self.same(of_bits.size(), 32)
            self.same(of_runs.size(), 2 * len(plain_runs(places)))

    def test_sizes_at_the_edges(self):
        everything = list(range(256))
        self.assertEqual([stretch.size() for stretch in three_kinds(everything)], [256, 32, 2])
        self.assertEqual([stretch.size() for stretch in three_kinds([9])], [1, 32, 2])
        self.assertEqual([stretch.size() for stretch in three_kinds(everything[::2])], [128, 32, 256])


if __name__ == "__main__":
    unittest.main()
