"""Questions put otherwise, so that less is touched: the same rows, nothing more touched, no greater bound."""

from runmarks.asking import read_question
from runmarks.bybits import ByBits
from runmarks.neatness import are_side_by_side, is_neat, parts_of, stands_among
from runmarks.questions import AllOf, Every, Nobody, OneOf, Opposite, Within
from runmarks.walks import check_names, walked_by_books


def better(question, columns):
    check_names(question, columns)
    return put_otherwise(question, columns, False)


def neat(question, columns):
    check_names(question, columns)
    return is_neat(question, columns)


def asked(text, columns, rows):
    question = better(read_question(text), columns)
    return walked_by_books(question, columns, rows)


def put_otherwise(question, columns, opposite):
    # Opposites go down to the leaves: an AllOf stops at the same part as the OneOf of the opposites does.
    if isinstance(question, Opposite):
        return put_otherwise(question.one, columns, not opposite)
    if isinstance(question, (AllOf, OneOf)):
        parts = [put_otherwise(part, columns, opposite) for part in question.parts]
        return all_of(parts) if isinstance(question, AllOf) != opposite else one_of(parts, columns)
    leaf = clipped(question, columns[question.name].top()) if isinstance(question, Within) else question
    if isinstance(leaf, Within):
        return Opposite(leaf) if opposite else leaf
    return Every() if isinstance(leaf, Every) != opposite else Nobody()


def clipped(within, top):
    low = max(within.low, 0)
    high = min(within.high, top)
    if low > high:
        return Nobody()
    if low == 0 and high == top:
        return Every()
    return Within(within.name, low, high)


# From here on the parts handed in are neat questions. Where of two parts one can go, the later one goes, or
# both are drawn together at the place of the earlier one: so no part comes to be walked that was not before.


def all_of(parts):
    flat = []
    for part in parts:
        if isinstance(part, AllOf):
            flat.extend(part.parts)
        elif not isinstance(part, Every):
            flat.append(part)
    met = withins_met(flat)
    if has_nobody(met) or has_opposites(met):
        return Nobody()
    left = without_needless(met)
    if left == []:
        return Every()
    return left[0] if len(left) == 1 else AllOf(left)


def one_of(parts, columns):
    flat = []
    for part in parts:
        if isinstance(part, OneOf):
            flat.extend(part.parts)
        elif not isinstance(part, Nobody):
            flat.append(part)
    drawn = withins_drawn(flat, columns)
    if has_every(drawn) or has_opposites(drawn):
        return Every()
    left = without_needless(drawn)
    if left == []:
        return Nobody()
    return left[0] if len(left) == 1 else OneOf(left)


def has_every(parts):
    return any([isinstance(part, Every) for part in parts])


def has_nobody(parts):
    return any([isinstance(part, Nobody) for part in parts])


def has_opposites(parts):
    ones = [part.one for part in parts if isinstance(part, Opposite)]
    return any([stands_among(one, parts) for one in ones])


def without_needless(parts):
    # A part needn't be asked behind one alike, nor where one of its own parts has been asked before: then an
    # AllOf has nothing left that a OneOf here would take away, and a OneOf has found all that an AllOf here finds.
    left = []
    for part in parts:
        if not any([stands_among(one, left) for one in [part] + parts_of(part)]):
            left.append(part)
    return left


def withins_met(parts):
    # Of the Withins of an AllOf with the same name one, or Nobody, stays.
    met = []
    places = {}
    for part in parts:
        if not isinstance(part, Within):
            met.append(part)
        elif part.name not in places:
            places[part.name] = len(met)
            met.append(part)
        else:
            at = places[part.name]
            met[at] = both_within(met[at], part)
    return met


def both_within(one, other):
    # Nobody once found stays Nobody.
    if isinstance(one, Nobody) or max(one.low, other.low) > min(one.high, other.high):
        return Nobody()
    return Within(one.name, max(one.low, other.low), min(one.high, other.high))


def withins_drawn(parts, columns):
    # Withins of a OneOf that are side by side are drawn together by bits alone: there each touches all bits
    # anyhow, while by value a wider one would touch more than the first of the two.
    drawn = []
    for part in parts:
        if isinstance(part, Within) and isinstance(columns[part.name], ByBits):
            drawn = with_one_more(drawn, part, columns[part.name].top())
        else:
            drawn.append(part)
    return drawn


def with_one_more(drawn, within, top):
    # Those drawn so far lie apart from one another: so what the wider one meets, this one meets itself.
    met = [at for at, part in enumerate(drawn) if are_side_by_side(part, within)]
    if met == []:
        return drawn + [within]
    low = min([within.low] + [drawn[at].low for at in met])
    high = max([within.high] + [drawn[at].high for at in met])
    rest = [part for at, part in enumerate(drawn) if at not in met]
    return rest[:met[0]] + [clipped(Within(within.name, low, high), top)] + rest[met[0]:]
