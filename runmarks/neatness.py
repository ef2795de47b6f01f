"""Which two questions are alike, and which are neat for columns."""

from runmarks.bybits import ByBits
from runmarks.questions import AllOf, Every, Nobody, OneOf, Opposite, Within


def alike(one, other):
    if isinstance(one, Within):
        return isinstance(other, Within) and (one.name, one.low, one.high) == (other.name, other.low, other.high)
    same_class = (
        isinstance(one, Every) and isinstance(other, Every)
        or isinstance(one, Nobody) and isinstance(other, Nobody)
        or isinstance(one, Opposite) and isinstance(other, Opposite)
        or isinstance(one, AllOf) and isinstance(other, AllOf)
        or isinstance(one, OneOf) and isinstance(other, OneOf)
    )
    return same_class and all_alike(one.beneath(), other.beneath())


def all_alike(some, others):
    return len(some) == len(others) and all([alike(one, other) for one, other in zip(some, others)])


def stands_among(question, others):
    return any([alike(question, other) for other in others])


def parts_of(question):
    return list(question.parts) if isinstance(question, (AllOf, OneOf)) else []


def are_of_one_name(one, other):
    return isinstance(one, Within) and isinstance(other, Within) and one.name == other.name


def are_side_by_side(one, other):
    # With a number that both have, or without one between them.
    return are_of_one_name(one, other) and one.low <= other.high + 1 and other.low <= one.high + 1


def are_opposites(one, other):
    return (isinstance(one, Opposite) and alike(one.one, other)
            or isinstance(other, Opposite) and alike(other.one, one))


def is_neat(question, columns):
    return isinstance(question, (Every, Nobody)) or is_neat_inside(question, columns)


def is_neat_inside(question, columns):
    if isinstance(question, Within):
        top = columns[question.name].top()
        return 0 <= question.low <= question.high <= top and (question.low > 0 or question.high < top)
    if isinstance(question, Opposite):
        return isinstance(question.one, Within) and is_neat_inside(question.one, columns)
    if isinstance(question, (AllOf, OneOf)):
        parts = question.parts
        return (len(parts) >= 2 and all([is_neat_inside(part, columns) for part in parts])
                and all([go_together(question, parts[:at], parts[at], columns) for at in range(len(parts))]))
    return False


def go_together(question, earlier, part, columns):
    # A part of a neat question, and the parts ahead of it.
    if any([alike(part, one) or are_opposites(part, one) for one in earlier]):
        return False
    if any([stands_among(inner, earlier) for inner in parts_of(part)]):
        return False
    if isinstance(question, AllOf):
        return not isinstance(part, AllOf) and not any([are_of_one_name(part, one) for one in earlier])
    if isinstance(part, Within) and not isinstance(columns[part.name], ByBits):
        return True
    return not isinstance(part, OneOf) and not any([are_side_by_side(part, one) for one in earlier])
