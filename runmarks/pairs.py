"""Two stretches laid together, place by place."""

from runmarks.bits import counted
from runmarks.kept import kept


def pair_common(one, other):
    return kept(one.word() & other.word())


def pair_joined(one, other):
    return kept(one.word() | other.word())


def pair_less(one, other):
    return kept(one.word() & ~other.word())


def pair_either(one, other):
    return kept(one.word() ^ other.word())


def pair_shared(one, other):
    return counted(one.word() & other.word())
