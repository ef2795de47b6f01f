"""Sets written as tapes of the signs 0 and 1."""

from runmarks.bits import PLACES, bits_text
from runmarks.tapes import BYTE_SIGNS, KEY_SIGNS, KIND_SIGNS, KINDS, LAST_SIGNS, MANY_SIGNS, STOP_SIGNS, head_place


def written(marks):
    heads = []
    bodies = []
    numbers = 0
    stop = 0
    for key in marks.key_list():
        stretch = marks.stretch_at(key)
        numbers += stretch.many()
        stop += stretch.size()
        heads.append(head_text(key, stretch.kind(), numbers - 1, stop))
        bodies.append(body_text(stretch))
    return bits_text(len(heads), MANY_SIGNS) + "".join(heads) + "".join(bodies)


def head_text(key, kind, last, stop):
    return (bits_text(key, KEY_SIGNS) + bits_text(KINDS.index(kind), KIND_SIGNS)
            + bits_text(last, LAST_SIGNS) + bits_text(stop, STOP_SIGNS))


def body_text(stretch):
    kind, body = stretch.told()
    if kind == "list":
        return "".join([bits_text(place, BYTE_SIGNS) for place in body])
    if kind == "bits":
        # Here place 0 stands first, while a number's text has its highest bit first.
        return bits_text(body, PLACES)[::-1]
    return "".join([bits_text(first, BYTE_SIGNS) + bits_text(last, BYTE_SIGNS) for first, last in body])


def tape_size(marks):
    return head_place(len(marks.key_list())) + BYTE_SIGNS * marks.size()
