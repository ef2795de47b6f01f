"""Columns by bits: a set of rows for each bit of the values."""

from runmarks.bits import PLACES, bit_at, places_of
from runmarks.columns import Column
from runmarks.joins import common, less, shared


class ByBits(Column):
    def __init__(self, width):
        Column.__init__(self)
        self.width = width

    def top(self):
        return (1 << self.width) - 1

    def fresh(self):
        return ByBits(self.width)

    def numbers_of(self, value):
        return places_of(value)

    def value(self, row):
        if not self.valued.has(row):
            return None
        return sum([1 << bit for bit in self.numbers_at(row // PLACES) if self.by_number[bit].has(row)])

    def total(self, rows):
        return sum([(1 << bit) * shared(self.by_number[bit], rows) for bit in self.by_number])

    def least(self, rows):
        return self.last_left(rows, False)

    def most(self, rows):
        return self.last_left(rows, True)

    def last_left(self, rows, ones_wanted):
        # From the highest bit on, those that have the wanted bit win over the others, where there are such.
        left = common(rows, self.valued)
        if left.many() == 0:
            return None
        value = 0
        for bit in range(self.width - 1, -1, -1):
            ones = common(left, self.set_of(bit))
            zeros = less(left, ones)
            if zeros.many() == 0 or (ones_wanted and ones.many() > 0):
                value += 1 << bit
                left = ones
            else:
                left = zeros
        return (value, left)

    def touched_at(self, key, low, high):
        return self.numbers_at(key)

    def word_at(self, key, low, high):
        return self.word_up_to(key, high) & ~self.word_up_to(key, low - 1)

    def word_up_to(self, key, limit):
        # From the highest bit on: rows that have been like the limit so far, and those that fell below it.
        alike = self.valued.word_at(key)
        if limit < 0:
            return 0
        if limit >= self.top():
            return alike
        below = 0
        for bit in range(self.width - 1, -1, -1):
            ones = self.by_number[bit].word_at(key) if bit in self.by_number else 0
            if bit_at(limit, bit) == 1:
                below = below | (alike & ~ones)
                alike = alike & ones
            else:
                alike = alike & ~ones
        return below | alike

    def known_among(self, many, key, low, high):
        least = 0
        most = 0
        for bit in self.numbers_at(key):
            most += 1 << bit
            if self.by_number[bit].count_at(key) == many:
                least += 1 << bit
        if high < least or low > most:
            return "none"
        return "all" if low <= least and most <= high else "some"
