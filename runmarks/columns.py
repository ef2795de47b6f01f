"""Columns: values given to rows, kept as sets of rows. What both kinds of column have in common."""

from runmarks.bits import PLACES, is_whole
from runmarks.errors import BadValue
from runmarks.kept import kept
from runmarks.marks import Marks, check_number, gathered


class Column:
    # The classes below tell what hangs on the kind: top, fresh, numbers_of, value, total, least, most,
    # touched_at, word_at and known_among.
    def __init__(self):
        self.valued = Marks()
        self.by_number = {}
        # For each key, as the keys of a dict, the numbers of the sets that have a row there: so that a
        # question at one key need not look through all sets.
        self.by_key = {}

    def can_have(self, value):
        return is_whole(value) and 0 <= value <= self.top()

    def put(self, row, value):
        check_number(row)
        if not self.can_have(value):
            raise BadValue("the column can't have this value")
        self.take(row)
        self.valued.put(row)
        for number in self.numbers_of(value):
            self.by_number.setdefault(number, Marks()).put(row)
            self.by_key.setdefault(row // PLACES, {})[number] = True

    def take(self, row):
        value = self.value(row)
        if value is None:
            return False
        self.valued.take(row)
        for number in self.numbers_of(value):
            rows = self.by_number[number]
            rows.take(row)
            if rows.count_at(row // PLACES) == 0:
                self.by_key[row // PLACES].pop(number)
            if rows.many() == 0:
                self.by_number.pop(number)
        return True

    def rows(self):
        return self.valued.copied()

    def set_of(self, number):
        return self.by_number[number].copied() if number in self.by_number else Marks()

    def within(self, low, high):
        return gathered([(key, kept(self.word_at(key, low, high))) for key in self.valued.key_list()])

    def sets(self):
        return [(number, self.by_number[number].told()) for number in sorted(self.by_number)]

    def numbers_at(self, key):
        return sorted(self.by_key.get(key, {}))

    def known_at(self, key, low, high):
        many = self.valued.count_at(key)
        if many == 0 or low > high:
            return "none"
        return self.known_among(many, key, low, high)

    def copied(self):
        other = self.fresh()
        other.valued = self.valued.copied()
        for number in sorted(self.by_number):
            other.by_number[number] = self.by_number[number].copied()
        for key in sorted(self.by_key):
            other.by_key[key] = dict(self.by_key[key])
        return other

    def renumbered(self, rows):
        other = self.fresh()
        for row in self.valued.numbers():
            other.put(rows.below(row), self.value(row))
        return other
