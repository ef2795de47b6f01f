"""Stretches slid, and sets moved."""

from runmarks.bits import PLACES, pushed
from runmarks.kept import kept
from runmarks.marks import KEYS, of_words


def slid(stretch, by):
    low, high = pushed(stretch.word(), by)
    return (kept(low), kept(high))


def moved(marks, by):
    # A move is one by whole keys, either way, and a push of 0 to 255 places within them.
    keys_on = by // PLACES
    words = {}
    for key in marks.key_list():
        low, high = pushed(marks.word_at(key), by % PLACES)
        for new_key, word in ((key + keys_on, low), (key + keys_on + 1, high)):
            if 0 <= new_key < KEYS:
                words[new_key] = words.get(new_key, 0) | word
    return of_words(words)
