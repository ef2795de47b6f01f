"""Sets laid together, number by number."""

from runmarks.bits import counted
from runmarks.kept import kept
from runmarks.marks import gathered, of_words


def keys_of_both(one, other):
    return sorted(set(one.key_list()) | set(other.key_list()))


def common(one, other):
    return gathered([(key, kept(one.word_at(key) & other.word_at(key))) for key in keys_of_both(one, other)])


def joined(one, other):
    return gathered([(key, kept(one.word_at(key) | other.word_at(key))) for key in keys_of_both(one, other)])


def less(one, other):
    return gathered([(key, kept(one.word_at(key) & ~other.word_at(key))) for key in keys_of_both(one, other)])


def either(one, other):
    return gathered([(key, kept(one.word_at(key) ^ other.word_at(key))) for key in keys_of_both(one, other)])


def shared(one, other):
    return sum([counted(one.word_at(key) & other.word_at(key)) for key in one.key_list()])


def lies_in(one, other):
    return shared(one, other) == one.many()


def joined_all(some):
    words = {}
    for marks in some:
        for key in marks.key_list():
            words[key] = words.get(key, 0) | marks.word_at(key)
    return of_words(words)
