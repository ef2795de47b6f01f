"""A table by plain means: a dict of rows, and what is drawn to be done to one."""

from examples import plain_told


class PlainTable:
    """columns is a list of tuples (name, kind, size); values a dict from rows to lists of values."""

    def __init__(self, columns):
        self.columns = columns
        self.values = {}

    def tops(self):
        return [size if kind == "values" else 2 ** size - 1 for name, kind, size in self.columns]

    def names(self):
        return [name for name, kind, size in self.columns]

    def by_names(self):
        return {row: dict(zip(self.names(), values)) for row, values in self.values.items()}

    def told(self):
        told = [("", 0, plain_told(self.values))]
        for at, (name, kind, size) in enumerate(self.columns):
            numbers = range(size + 1) if kind == "values" else range(size)
            for number in numbers:
                rows = [row for row, values in self.values.items() if stands_in(kind, number, values[at])]
                if rows:
                    told.append((name, number, plain_told(rows)))
        return told

    def renumber(self):
        old = sorted(self.values)
        self.values = {k: self.values[row] for k, row in enumerate(old)}
        return old


def stands_in(kind, number, value):
    return value == number if kind == "values" else value >> number & 1 == 1


def drawn_row(source):
    return source.choice((source.randrange(12), source.randrange(600), 65535, 256 * source.randrange(256)))


def drawn_row_values(source, tops):
    return [source.choice((0, top, source.randint(0, top), source.randint(0, min(top, 3)))) for top in tops]


def drawn_columns(source):
    names = source.sample(("a", "bb", "colour", "zzzzzzzz", "x", "y"), source.randint(1, 6))
    return [(name, *source.choice((("values", 3), ("values", 0), ("values", 999), ("bits", 1), ("bits", 5), ("bits", 40))))
            for name in names]
