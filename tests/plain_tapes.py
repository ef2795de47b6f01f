"""Tapes written by plain means, field by field, right ones and wrong ones."""

from examples import at_key, built_number_sets, drawn_number_sets, places_by_key, plain_kept

CODES = {"list": 0, "bits": 1, "runs": 2}
EVERYTHING = list(range(256))


def signs(number, many):
    return format(number, f"0{many}b")


def body_fields(kind, body):
    """The fields of a body, each as its text."""
    if kind == "list":
        return [signs(place, 8) for place in body]
    if kind == "bits":
        return ["".join("1" if body >> place & 1 else "0" for place in EVERYTHING)]
    return [signs(place, 8) for run in body for place in run]


def tape_fields(numbers):
    """All fields of the tape of a set, each as its text."""
    heads, bodies, many, stop = [], [], 0, 0
    for key, places in places_by_key(numbers).items():
        kind, body = plain_kept(places)
        many += len(places)
        stop += len("".join(body_fields(kind, body))) // 8
        heads += [signs(key, 8), signs(CODES[kind], 2), signs(many - 1, 16), signs(stop, 14)]
        bodies += body_fields(kind, body)
    return [signs(len(places_by_key(numbers)), 9)] + heads + bodies


def plain_tape(numbers):
    return "".join(tape_fields(numbers))


def one_stretch(kind, many, stop, fields, key=0):
    """A tape of one stretch with whatever stands in its fields."""
    head = signs(1, 9) + signs(key, 8) + signs(kind, 2) + signs(many - 1, 16) + signs(stop, 14)
    return head + "".join(fields)


def taped_sets():
    return built_number_sets() + drawn_number_sets(40, 12) + [
        at_key(3, [9]), at_key(4, EVERYTHING[::2]), at_key(5, EVERYTHING),
        at_key(1, [1, 2]) + at_key(2, EVERYTHING[5:50]) + at_key(3, EVERYTHING[1::2]) + at_key(200, [255]),
    ]
