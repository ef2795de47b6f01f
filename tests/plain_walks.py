"""Walks by plain means: rows as sets, values in dicts, columns told as (kind, size); and what is drawn to be walked."""

from question_draws import drawn_question
from runmarks.bybits import ByBits
from runmarks.byvalue import ByValue
from runmarks.marks import marks_of
from runmarks.questions import AllOf, Every, Nobody, OneOf, Opposite, Within

TURNED = {"none": "all", "all": "none", "some": "some"}


def new_columns(kinds):
    return {name: ByValue(size) if kind == "values" else ByBits(size) for name, (kind, size) in kinds.items()}


def filled_columns(kinds, values):
    columns = new_columns(kinds)
    for row in values:
        for name in kinds:
            columns[name].put(row, values[row][name])
    return columns


def top_of(kind, size):
    return size if kind == "values" else 2 ** size - 1


class PlainWalk:
    """One walk over rows with values: {row: {name: value}}."""

    def __init__(self, kinds, values, by_books=False):
        self.kinds = kinds
        self.values = values
        self.by_books = by_books
        self.touches = set()

    def keys(self):
        return sorted({row // 256 for row in self.values})

    def here(self, key, name):
        return {row: self.values[row][name] for row in self.values if row // 256 == key}

    def walk(self, question):
        found = set()
        for key in self.keys():
            live = {row for row in self.values if row // 256 == key}
            found |= self.holding(question, key, live)
        return sorted(found), sorted(self.touches)

    def holding(self, question, key, live):
        if self.by_books and self.known(question, key) != "some":
            return live if self.known(question, key) == "all" else set()
        if isinstance(question, Every):
            return live
        if isinstance(question, Nobody):
            return set()
        if isinstance(question, Within):
            self.touches.update((key, question.name, number) for number in self.touched(question, key))
            return {row for row, value in self.here(key, question.name).items() if question.low <= value <= question.high}
        if isinstance(question, Opposite):
            return live - self.holding(question.one, key, live)
        return self.holding_several(question, key, live)

    def holding_several(self, question, key, live):
        left, found = live, set()
        for part in question.parts:
            if isinstance(question, AllOf) and left:
                left = left & self.holding(part, key, live)
            if isinstance(question, OneOf) and found != live:
                found = found | self.holding(part, key, live)
        return left if isinstance(question, AllOf) else found

    def touched(self, within, key):
        values = self.here(key, within.name).values()
        if self.kinds[within.name][0] == "values":
            return sorted({value for value in values if within.low <= value <= within.high})
        return [bit for bit in range(40) if any(value >> bit & 1 for value in values)]

    def known(self, question, key):
        if isinstance(question, Every):
            return "all"
        if isinstance(question, Nobody):
            return "none"
        if isinstance(question, Within):
            return self.known_within(question, list(self.here(key, question.name).values()))
        if isinstance(question, Opposite):
            return TURNED[self.known(question.one, key)]
        told = [self.known(part, key) for part in question.parts]
        strong, weak = ("none", "all") if isinstance(question, AllOf) else ("all", "none")
        if strong in told:
            return strong
        return "some" if "some" in told else weak

    def known_within(self, within, values):
        if not values or within.low > within.high:
            return "none"
        if self.kinds[within.name][0] == "values":
            met = [value for value in values if within.low <= value <= within.high]
            return "none" if not met else "all" if len(met) == len(values) else "some"
        least = sum(2 ** bit for bit in range(40) if all(value >> bit & 1 for value in values))
        most = sum(2 ** bit for bit in range(40) if any(value >> bit & 1 for value in values))
        if within.high < least or within.low > most:
            return "none"
        return "all" if within.low <= least and most <= within.high else "some"

    def bound_at(self, question, key):
        if self.known(question, key) != "some":
            return 0
        if isinstance(question, Within):
            return len(self.touched(question, key))
        beneath = [question.one] if isinstance(question, Opposite) else question.parts
        return sum(self.bound_at(part, key) for part in beneath)

    def bound(self, question):
        return sum(self.bound_at(question, key) for key in self.keys())


def drawn_kinds(source):
    """One to four columns, of few values each, so that questions meet one another often."""
    kinds = {}
    for name in ("a", "b", "c", "d")[:source.randint(1, 4)]:
        kind = source.choice(("values", "bits"))
        kinds[name] = (kind, source.choice((0, 1, 2, 3, 7)) if kind == "values" else source.choice((1, 2, 2, 3)))
    return kinds


def drawn_bounds(kinds):
    def bounds(source, name):
        top = top_of(*kinds[name])
        ends = [source.randint(-1, top + 1), source.randint(-1, top + 1)]
        if source.random() < 0.85:
            ends.sort()
        return (ends[0], ends[0]) if source.random() < 0.3 else tuple(ends)
    return bounds


def drawn_values(source, kinds):
    rows = []
    for key in source.sample((0, 1, 7, 255), source.randint(0, 3)):
        rows += [key * 256 + place for place in source.sample(range(256), source.choice((1, 1, 2, 3, 6)))]
    values = {row: {} for row in rows}
    for name in kinds:
        few = [source.randint(0, top_of(*kinds[name])) for k in range(source.randint(1, 3))]
        for row in rows:
            values[row][name] = source.choice(few)
    return values


def drawn_walk(source):
    """A tuple (kinds, values, question)."""
    kinds = drawn_kinds(source)
    question = drawn_question(source, list(kinds), drawn_bounds(kinds), source.randint(0, 4))
    return kinds, drawn_values(source, kinds), question


def rows_of(values):
    return marks_of(list(values))
