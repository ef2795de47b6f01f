"""Sets of places that the tests ask about, each as a rising list, and what a plain list says of them."""

import random
import unittest


class Checks(unittest.TestCase):
    def same(self, answer, wanted):
        """Equal, and no truth where a whole number is wanted."""
        self.assertEqual(answer, wanted)
        self.assertIs(type(answer), type(wanted))


def built_sets():
    """Sets at the edges: few and many places, few and many runs, with and without the places 0 and 255."""
    everything = list(range(256))
    return [
        [0], [1], [77], [254], [255],
        [0, 1], [0, 255], [254, 255], [7, 9], [0, 2, 3, 255],
        everything, everything[1:], everything[:-1], everything[1:-1],
        everything[:128], everything[128:], everything[100:103],
        everything[::2], everything[1::2], everything[::3],
        [p for p in everything if p % 3],
        [p for p in everything if p % 16 < 3],
        [p for p in everything if p % 17 < 4],
        [p for p in everything if p != 128],
        everything[:64:2], everything[:66:2],
        everything[:32], everything[:33], everything[:31] + [40, 200],
    ]


def drawn_sets():
    """Sets of all densities; the seed is fixed, so they are the same each time."""
    source = random.Random(256)
    sets = []
    for many in (1, 2, 3, 5, 15, 16, 31, 32, 33, 64, 100, 128, 200, 240, 255):
        sets.append(sorted(source.sample(range(256), many)))
    for cuts in (2, 6, 14, 30, 32, 60):
        ends = sorted(source.sample(range(257), cuts))
        places = []
        for k in range(0, cuts, 2):
            places.extend(range(ends[k], ends[k + 1]))
        sets.append(places)
    return sets


def some_sets():
    return built_sets() + drawn_sets()


def plain_word(places):
    return sum(2 ** place for place in set(places))


def plain_runs(places):
    """The runs, found place by place."""
    held = set(places)
    firsts = [p for p in range(256) if p in held and p - 1 not in held]
    lasts = [p for p in range(256) if p in held and p + 1 not in held]
    return list(zip(firsts, lasts))
