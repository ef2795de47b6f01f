"""What the tests ask about, sets of places and of numbers as rising lists, and what the plain lists say of them."""

import random
import unittest

from runmarks.stretches import BitStretch, ListStretch, RunStretch

NO_NUMBERS = (True, False, None, "", "7", -1, 65536, 10 ** 99, -(10 ** 99), [], (1,), 1.0)
NO_WHOLE = (True, False, None, "", "0", [], (0,), 0.0)


class Checks(unittest.TestCase):
    def same(self, answer, wanted):
        """Equal, and no truth where a whole number is wanted."""
        self.assertEqual(answer, wanted)
        self.assertIs(type(answer), type(wanted))


def built_sets():
    """Sets at the edges: few and many places, few and many runs, with and without the places 0 and 255."""
    everything = list(range(256))
    return [
        [0], [1], [77], [254], [255],
        [0, 1], [0, 255], [254, 255], [7, 9], [0, 2, 3, 255],
        everything, everything[1:], everything[:-1], everything[1:-1],
        everything[:128], everything[128:], everything[100:103],
        everything[::2], everything[1::2], everything[::3],
        [p for p in everything if p % 3],
        [p for p in everything if p % 16 < 3],
        [p for p in everything if p % 17 < 4],
        [p for p in everything if p != 128],
        everything[:64:2], everything[:66:2],
        everything[:32], everything[:33], everything[:31] + [40, 200],
    ]


def drawn_sets():
    """Sets of all densities; the seed is fixed, so they are the same each time."""
    source = random.Random(256)
    sets = []
    for many in (1, 2, 3, 5, 15, 16, 31, 32, 33, 64, 100, 128, 200, 240, 255):
        sets.append(sorted(source.sample(range(256), many)))
    for cuts in (2, 6, 14, 30, 32, 60):
        ends = sorted(source.sample(range(257), cuts))
        places = []
        for k in range(0, cuts, 2):
            places.extend(range(ends[k], ends[k + 1]))
        sets.append(places)
    return sets


def some_sets():
    return built_sets() + drawn_sets()


def plain_word(places):
    return sum(2 ** place for place in set(places))


def plain_runs(places):
    """The runs, found place by place."""
    held = set(places)
    firsts = [p for p in range(256) if p in held and p - 1 not in held]
    lasts = [p for p in range(256) if p in held and p + 1 not in held]
    return list(zip(firsts, lasts))


def three_kinds(places):
    """The stretches of a set of places, of each kind, kept ones or not."""
    return [ListStretch(places), BitStretch(plain_word(places)), RunStretch(plain_runs(places))]


def plain_kept(places):
    """What the kept stretch of some places tells: the least of the three, the first of several."""
    three = [stretch.told() for stretch in three_kinds(sorted(places))]
    bytes_of = [len(places), 32, 2 * len(plain_runs(places))]
    return three[bytes_of.index(min(bytes_of))]


def places_by_key(numbers):
    by_key = {}
    for number in sorted(set(numbers)):
        by_key.setdefault(number // 256, []).append(number % 256)
    return by_key


def plain_told(numbers):
    """What a set of these numbers tells of itself."""
    return [(key, *plain_kept(places)) for key, places in places_by_key(numbers).items()]


def plain_book(numbers):
    held = set(numbers)
    return [(key, len([n for n in held if n // 256 < key])) for key in places_by_key(numbers)]


def plain_size(numbers):
    return sum([min(len(places), 32, 2 * len(plain_runs(places))) for places in places_by_key(numbers).values()])


def at_key(key, places):
    return [key * 256 + place for place in places]


def built_number_sets():
    """Rising lists of numbers: stretches of each kind, at the edges of the keys and of all numbers."""
    everything = list(range(256))
    sparse, dense, long = [3, 70, 200], everything[::2], everything[10:200]
    return [
        [], [0], [255], [256], [65280], [65535], [0, 65535], [255, 256], [0, 255, 256, 65280, 65535],
        at_key(0, everything), at_key(255, everything), at_key(7, sparse), at_key(7, dense), at_key(7, long),
        at_key(0, sparse) + at_key(1, dense) + at_key(2, long),
        at_key(3, long) + at_key(100, dense) + at_key(255, sparse),
        at_key(1, dense) + at_key(2, everything[1::2]) + at_key(9, everything),
        list(range(200, 1000)), list(range(60000, 65536)), list(range(0, 65536, 256)), list(range(17, 65536, 1000)),
    ]


def drawn_number_sets(seed, many):
    """Rising lists of numbers of all densities, in few keys or in many; the same for the same seed."""
    source = random.Random(seed)
    drawn = []
    for k in range(many):
        numbers = set()
        for key in source.sample((0, 1, 2, 3, 100, 101, 254, 255), source.randrange(1, 6)):
            shape = source.randrange(4)
            places = source.sample(range(256), source.choice((1, 2, 20, 32, 33, 60, 150, 256)))
            if shape == 0:
                places = range(min(places[0], places[-1]), max(places[0], places[-1]) + 1)
            if shape == 1:
                places = [p for p in range(256) if p // 8 % 2 == key % 2]
            numbers.update(at_key(key, places))
        drawn.append(sorted(numbers))
    return drawn


class MarksChecks(Checks):
    def assert_marks(self, marks, numbers):
        """The set holds just these numbers, in its one kept form, and its book is right."""
        wanted = sorted(set(numbers))
        self.assertEqual(marks.numbers(), wanted)
        self.assertEqual(marks.told(), plain_told(wanted))
        self.same(marks.many(), len(wanted))
        self.same(marks.size(), plain_size(wanted))
        self.assertEqual(marks.book(), plain_book(wanted))
        self.assertEqual(marks.key_list(), list(places_by_key(wanted)))
        self.assertTrue(all(type(number) is int for number in marks.numbers()))
