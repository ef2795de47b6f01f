"""Tapes read as sets, or refused by the place where they go wrong."""

from runmarks.bits import PLACES, counted, number_of, runs_of, word_of, word_of_runs
from runmarks.errors import BadTape
from runmarks.kept import sizes
from runmarks.marks import KEYS, gathered
from runmarks.stretches import BitStretch, ListStretch, RunStretch
from runmarks.tapes import BYTE_SIGNS, KEY_SIGNS, KIND_SIGNS, KINDS, LAST_SIGNS, MANY_SIGNS, STOP_SIGNS


class Fields:
    # What is left to be looked at of a tape, and the place of the field looked at last.
    def __init__(self, tape):
        self.tape = tape
        self.began = 0
        self.ended = 0

    def signs(self, many):
        if self.ended + many > len(self.tape):
            raise BadTape(len(self.tape))
        self.began = self.ended
        self.ended = self.ended + many
        return self.tape[self.began:self.ended]

    def number(self, many):
        return number_of(self.signs(many))


def need(can_stand, place):
    if not can_stand:
        raise BadTape(place)


def read(tape):
    check_signs(tape)
    fields = Fields(tape)
    heads = read_heads(fields)
    pairs = [(key, read_body(fields, kind, many, length)) for key, kind, many, length in heads]
    need(fields.ended == len(tape), fields.ended)
    return gathered(pairs)


def check_signs(tape):
    for place, sign in enumerate(tape):
        if sign not in ("0", "1"):
            raise BadTape(place)


def read_heads(fields):
    # Heads as tuples (key, kind, many, length), of each stretch by itself.
    stretches = fields.number(MANY_SIGNS)
    need(stretches <= KEYS, fields.began)
    heads = []
    key_before = -1
    numbers_before = 0
    stop_before = 0
    for at in range(stretches):
        key = fields.number(KEY_SIGNS)
        need(key > key_before, fields.began)
        written_kind = fields.number(KIND_SIGNS)
        need(written_kind < len(KINDS), fields.began)
        kind = KINDS[written_kind]
        numbers = fields.number(LAST_SIGNS) + 1
        need(can_be_many(kind, numbers - numbers_before), fields.began)
        stop = fields.number(STOP_SIGNS)
        need(can_be_length(kind, numbers - numbers_before, stop - stop_before), fields.began)
        heads.append((key, kind, numbers - numbers_before, stop - stop_before))
        key_before = key
        numbers_before = numbers
        stop_before = stop
    return heads


def can_be_many(kind, many):
    if kind == "list":
        return 1 <= many <= PLACES // 8
    if kind == "bits":
        return PLACES // 8 < many <= PLACES
    return 3 <= many <= PLACES


def can_be_length(kind, many, length):
    if kind == "list":
        return length == many
    if kind == "bits":
        return length == PLACES // 8
    return length % 2 == 0 and 2 <= length < PLACES // 8 and length < many


def read_body(fields, kind, many, length):
    if kind == "list":
        return read_list(fields, many)
    if kind == "bits":
        return read_bits(fields, many)
    return read_runs(fields, many, length // 2)


def read_list(fields, many):
    begin = fields.ended
    places = []
    for at in range(many):
        place = fields.number(BYTE_SIGNS)
        need(at == 0 or place > places[-1], fields.began)
        places.append(place)
    need(many <= sizes(word_of(places))[2], begin)
    return ListStretch(places)


def read_bits(fields, many):
    word = number_of(fields.signs(PLACES)[::-1])
    need(counted(word) == many and len(runs_of(word)) >= 16, fields.began)
    return BitStretch(word)


def read_runs(fields, many, how_many):
    begin = fields.ended
    runs = []
    for at in range(how_many):
        first = fields.number(BYTE_SIGNS)
        need(at == 0 or first >= runs[-1][1] + 2, fields.began)
        last = fields.number(BYTE_SIGNS)
        need(last >= first, fields.began)
        runs.append((first, last))
    need(counted(word_of_runs(runs)) == many, begin)
    return RunStretch(runs)
