"""Columns by value: a set of rows for each value."""

from runmarks.bits import PLACES
from runmarks.columns import Column
from runmarks.joins import common, shared
from runmarks.marks import check_number


class ByValue(Column):
    def __init__(self, top):
        Column.__init__(self)
        self.greatest = top

    def top(self):
        return self.greatest

    def fresh(self):
        return ByValue(self.greatest)

    def numbers_of(self, value):
        return [value]

    def value(self, row):
        check_number(row)
        for number in self.numbers_at(row // PLACES):
            if self.by_number[number].has(row):
                return number
        return None

    def total(self, rows):
        return sum([number * shared(self.by_number[number], rows) for number in self.by_number])

    def least(self, rows):
        return self.first_met(sorted(self.by_number), rows)

    def most(self, rows):
        return self.first_met(sorted(self.by_number, reverse=True), rows)

    def first_met(self, numbers, rows):
        for number in numbers:
            met = common(self.by_number[number], rows)
            if met.many() > 0:
                return (number, met)
        return None

    def touched_at(self, key, low, high):
        return [number for number in self.numbers_at(key) if low <= number <= high]

    def word_at(self, key, low, high):
        word = 0
        for number in self.touched_at(key, low, high):
            word = word | self.by_number[number].word_at(key)
        return word

    def known_among(self, many, key, low, high):
        found = sum([self.by_number[number].count_at(key) for number in self.touched_at(key, low, high)])
        if found == 0:
            return "none"
        return "all" if found == many else "some"
