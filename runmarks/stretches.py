"""Stretches: sets of places that are not empty, held as a list, as bits or as runs."""

from runmarks.bits import PLACES, bit_at, counted, first_one, last_one, one_at, ones_below
from runmarks.bits import span_word, word_of, word_of_runs


class Stretch:
    # A stretch answers by its set alone, whatever its kind: so all answers are drawn from its word,
    # and the classes below tell only what hangs on the kind: kind, body, word and size.

    def told(self):
        return (self.kind(), self.body())

    def many(self):
        return counted(self.word())

    def has(self, place):
        return bit_at(self.word(), place) == 1

    def below(self, place):
        return ones_below(self.word(), place)

    def chosen(self, k):
        return one_at(self.word(), k)

    def onward(self, place):
        return first_one(self.word() & span_word(place, PLACES - 1))

    def backward(self, place):
        return last_one(self.word() & span_word(0, place))


class ListStretch(Stretch):
    def __init__(self, places):
        # A copy here, and another one in body: the asker may change either list.
        self.places = list(places)

    def kind(self):
        return "list"

    def body(self):
        return list(self.places)

    def word(self):
        return word_of(self.places)

    def size(self):
        return len(self.places)


class BitStretch(Stretch):
    def __init__(self, word):
        self.ones = word

    def kind(self):
        return "bits"

    def body(self):
        return self.ones

    def word(self):
        return self.ones

    def size(self):
        return PLACES // 8


class RunStretch(Stretch):
    def __init__(self, runs):
        # A copy here, and another one in body: the asker may change either list.
        self.runs = list(runs)

    def kind(self):
        return "runs"

    def body(self):
        return list(self.runs)

    def word(self):
        return word_of_runs(self.runs)

    def size(self):
        return 2 * len(self.runs)
