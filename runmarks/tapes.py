"""How a tape is laid out: what both its writer and its readers must know."""

MANY_SIGNS = 9
KEY_SIGNS = 8
KIND_SIGNS = 2
LAST_SIGNS = 16
STOP_SIGNS = 14
HEAD_SIGNS = 40
BYTE_SIGNS = 8

# Where the fields of a head begin, counted from the head's first sign.
KIND_AT = 8
LAST_AT = 10
STOP_AT = 26

# A kind is written as its place in here.
KINDS = ("list", "bits", "runs")


def head_place(at):
    return MANY_SIGNS + HEAD_SIGNS * at
