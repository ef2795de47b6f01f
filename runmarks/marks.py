"""Sets of numbers from 0 to 65535: a kept stretch for each key, and a book of how many numbers lie ahead of it."""

from runmarks.bits import PLACES, is_whole, places_of, span_word
from runmarks.books import halved_counts, halved_keys
from runmarks.errors import NoNumber, NoPlace
from runmarks.kept import added, kept, removed

GREATEST = 65535
KEYS = 256


def check_number(thing):
    if not is_whole(thing) or not 0 <= thing <= GREATEST:
        raise NoNumber(f"a number of a set is a whole number from 0 to {GREATEST}")


def spans_by_key(first, last):
    # For each key that the numbers from first to last have: the word of their places.
    spans = []
    if first > last:
        return spans
    for key in range(first // PLACES, last // PLACES + 1):
        base = key * PLACES
        spans.append((key, span_word(max(first, base) - base, min(last, base + PLACES - 1) - base)))
    return spans


class Marks:
    def __init__(self):
        # Three lists side by side, with one thing each for every stretch, keys rising. Behind every deed
        # an ahead is how many numbers have a lesser key; held is how many there are in all.
        self.keyed = []
        self.aheads = []
        self.stretches = []
        self.held = 0

    def put(self, n):
        if self.has(n):
            return False
        stretch = self.stretch_at(n // PLACES)
        place = n % PLACES
        self.keep(n // PLACES, kept(1 << place) if stretch is None else added(stretch, place))
        return True

    def take(self, n):
        if not self.has(n):
            return False
        self.keep(n // PLACES, removed(self.stretch_at(n // PLACES), n % PLACES))
        return True

    def put_span(self, first, last):
        check_number(first)
        check_number(last)
        before = self.held
        for key, span in spans_by_key(first, last):
            self.keep(key, kept(self.word_at(key) | span))
        return self.held - before

    def take_span(self, first, last):
        check_number(first)
        check_number(last)
        before = self.held
        for key, span in spans_by_key(first, last):
            self.keep(key, kept(self.word_at(key) & ~span))
        return before - self.held

    def has(self, n):
        check_number(n)
        stretch = self.stretch_at(n // PLACES)
        return stretch is not None and stretch.has(n % PLACES)

    def many(self):
        return self.held

    def below(self, n):
        check_number(n)
        at = self.found(n // PLACES)
        if self.stands(at, n // PLACES):
            return self.aheads[at] + self.stretches[at].below(n % PLACES)
        return self.ahead_of(at)

    def onward(self, n):
        before = self.below(n)
        return self.chosen(before) if before < self.held else None

    def backward(self, n):
        if self.has(n):
            return n
        before = self.below(n)
        return self.chosen(before - 1) if before > 0 else None

    def chosen(self, k):
        self.check_place(k)
        at = halved_counts(self.aheads, k)[0]
        return self.keyed[at] * PLACES + self.stretches[at].chosen(k - self.aheads[at])

    def numbers(self):
        numbers = []
        for key, stretch in zip(self.keyed, self.stretches):
            numbers.extend([key * PLACES + place for place in places_of(stretch.word())])
        return numbers

    def told(self):
        return [(key, stretch.kind(), stretch.body()) for key, stretch in zip(self.keyed, self.stretches)]

    def size(self):
        return sum([stretch.size() for stretch in self.stretches])

    def book(self):
        return list(zip(self.keyed, self.aheads))

    def below_looks(self, n):
        check_number(n)
        return halved_keys(self.keyed, n // PLACES)[1]

    def chosen_looks(self, k):
        self.check_place(k)
        return halved_counts(self.aheads, k)[1]

    def key_list(self):
        return list(self.keyed)

    def stretch_at(self, key):
        at = self.found(key)
        return self.stretches[at] if self.stands(at, key) else None

    def count_at(self, key):
        at = self.found(key)
        return self.ahead_of(at + 1) - self.aheads[at] if self.stands(at, key) else 0

    def word_at(self, key):
        stretch = self.stretch_at(key)
        return 0 if stretch is None else stretch.word()

    def copied(self):
        other = Marks()
        other.keyed = list(self.keyed)
        other.aheads = list(self.aheads)
        other.stretches = list(self.stretches)
        other.held = self.held
        return other

    def check_place(self, k):
        if not is_whole(k) or not 0 <= k < self.held:
            raise NoPlace("the set has no such so-manieth number")

    def found(self, key):
        return halved_keys(self.keyed, key)[0]

    def stands(self, at, key):
        return at < len(self.keyed) and self.keyed[at] == key

    def ahead_of(self, at):
        return self.aheads[at] if at < len(self.aheads) else self.held

    def keep(self, key, stretch):
        # The one place where stretches come and go, so that the book is set right with them.
        at = self.found(key)
        behind = at + 1 if self.stands(at, key) else at
        ahead = self.ahead_of(at)
        more = (0 if stretch is None else stretch.many()) - (self.ahead_of(behind) - ahead)
        mine = 0 if stretch is None else 1
        self.keyed = self.keyed[:at] + [key] * mine + self.keyed[behind:]
        self.aheads = self.aheads[:at] + [ahead] * mine + [each + more for each in self.aheads[behind:]]
        self.stretches = self.stretches[:at] + [stretch] * mine + self.stretches[behind:]
        self.held = self.held + more


def marks_of(numbers):
    words = {}
    for n in numbers:
        check_number(n)
        words[n // PLACES] = words.get(n // PLACES, 0) | (1 << (n % PLACES))
    return of_words(words)


def of_words(words):
    # Of a dict from keys to words.
    return gathered([(key, kept(words[key])) for key in sorted(words)])


def gathered(pairs):
    made = Marks()
    for key, stretch in pairs:
        if stretch is not None:
            made.keep(key, stretch)
    return made
