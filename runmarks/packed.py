"""Tapes looked at as they stand: few signs are read, and which ones is told with each answer."""

from runmarks.bits import PLACES, bit_at, counted, is_whole, number_of, one_at, ones_below, word_of, word_of_runs
from runmarks.books import halved
from runmarks.errors import NoPlace
from runmarks.marks import check_number
from runmarks.tapes import BYTE_SIGNS, KEY_SIGNS, KIND_AT, KIND_SIGNS, KINDS, LAST_AT, LAST_SIGNS, MANY_SIGNS
from runmarks.tapes import STOP_AT, STOP_SIGNS, head_place


class Glance:
    # All that is read of the tape goes through signs: so an answer can hang on nothing else than its spans.
    # A text that is no tape may lead anywhere; what lies outside of it is read as nothing.
    def __init__(self, tape):
        self.tape = tape
        self.spans = []
        self.heads = self.number(0, MANY_SIGNS)

    def signs(self, first, many):
        end = min(first + many, len(self.tape))
        if first >= end:
            return ""
        self.spans.append((first, end))
        return self.tape[first:end]

    def number(self, first, many):
        return number_of(self.signs(first, many))

    def key(self, at):
        return self.number(head_place(at), KEY_SIGNS)

    def ahead(self, at):
        # How many numbers the stretches ahead of this one have, as the head before it tells.
        return self.number(head_place(at - 1) + LAST_AT, LAST_SIGNS) + 1 if at > 0 else 0

    def bytes_ahead(self, at):
        return self.number(head_place(at - 1) + STOP_AT, STOP_SIGNS) if at > 0 else 0

    def found(self, key):
        # The place of the first head whose key is not less, and whether it has this very key.
        at = halved(self.heads, lambda place: self.key(place) < key)[0]
        return (at, at < self.heads and self.key(at) == key)

    def word(self, at):
        kind = self.number(head_place(at) + KIND_AT, KIND_SIGNS)
        begin = self.bytes_ahead(at)
        many = self.bytes_ahead(at + 1) - begin
        body = self.signs(head_place(self.heads) + BYTE_SIGNS * begin, BYTE_SIGNS * many)
        if kind == KINDS.index("bits"):
            return number_of(body[::-1])
        places = [number_of(body[first:first + BYTE_SIGNS]) for first in range(0, len(body), BYTE_SIGNS)]
        if kind == KINDS.index("list"):
            return word_of(places)
        runs = [(places[first], places[first + 1]) for first in range(0, len(places) - 1, 2)]
        return word_of_runs([run for run in runs if run[0] <= run[1]])


def packed_many(tape):
    glance = Glance(tape)
    return (glance.ahead(glance.heads), glance.spans)


def packed_has(tape, n):
    check_number(n)
    glance = Glance(tape)
    at, there = glance.found(n // PLACES)
    return (there and bit_at(glance.word(at), n % PLACES) == 1, glance.spans)


def packed_below(tape, n):
    check_number(n)
    glance = Glance(tape)
    at, there = glance.found(n // PLACES)
    within = ones_below(glance.word(at), n % PLACES) if there else 0
    return (glance.ahead(at) + within, glance.spans)


def packed_chosen(tape, k):
    glance = Glance(tape)
    if not is_whole(k) or not 0 <= k < glance.ahead(glance.heads):
        raise NoPlace("the set has no such so-manieth number")
    at = halved(glance.heads, lambda place: glance.ahead(place) <= k)[0] - 1
    word = glance.word(at)
    within = k - glance.ahead(at)
    if not 0 <= within < counted(word):
        raise NoPlace("this text is no tape: where it points to, there is no such number")
    return (glance.key(at) * PLACES + one_at(word, within), glance.spans)
