"""Kept stretches: of the three kinds of a set of places the one that needs the fewest bytes."""

from runmarks.bits import PLACES, counted, places_of, runs_of
from runmarks.stretches import BitStretch, ListStretch, RunStretch


def sizes(word):
    # A run begins at each one that has no one right beneath it.
    begins = word & ~(word << 1)
    return (counted(word), PLACES // 8, 2 * counted(begins))


def kept(word):
    if word == 0:
        return None
    as_list, as_bits, as_runs = sizes(word)
    if as_list <= as_bits and as_list <= as_runs:
        return ListStretch(places_of(word))
    if as_bits <= as_runs:
        return BitStretch(word)
    return RunStretch(runs_of(word))


def added(stretch, place):
    return kept(stretch.word() | (1 << place))


def removed(stretch, place):
    return kept(stretch.word() & ~(1 << place))
