"""Questions about a row, by the values that it has in its columns."""


class Question:
    # What stands beneath a question says most of it; the leaves, beneath which nothing stands, are told apart.
    def mentions(self):
        names = []
        for question in self.beneath():
            names.extend(question.mentions())
        return names

    def leaves(self):
        return sum([question.leaves() for question in self.beneath()])

    def depth(self):
        return 1 + max([question.depth() for question in self.beneath()], default=0)


class Leaf(Question):
    def beneath(self):
        return []

    def leaves(self):
        return 1

    def depth(self):
        return 0


class Every(Leaf):
    def holds(self, values):
        return True

    def shown(self):
        return "all"


class Nobody(Leaf):
    def holds(self, values):
        return False

    def shown(self):
        return "none"


class Within(Leaf):
    def __init__(self, name, low, high):
        self.name = name
        self.low = low
        self.high = high

    def mentions(self):
        return [self.name]

    def holds(self, values):
        return self.low <= values[self.name] <= self.high

    def shown(self):
        if self.low == self.high:
            return self.name + " is " + str(self.low)
        return self.name + " from " + str(self.low) + " to " + str(self.high)


class Opposite(Question):
    def __init__(self, one):
        self.one = one

    def beneath(self):
        return [self.one]

    def holds(self, values):
        return not self.one.holds(values)

    def shown(self):
        return "not " + shown_in(self.one, isinstance(self.one, (AllOf, OneOf)))


class AllOf(Question):
    def __init__(self, parts):
        # A copy: the asker may change the list.
        self.parts = list(parts)

    def beneath(self):
        return list(self.parts)

    def holds(self, values):
        return all([part.holds(values) for part in self.parts])

    def shown(self):
        return " and ".join([shown_in(part, isinstance(part, (AllOf, OneOf))) for part in self.parts])


class OneOf(Question):
    def __init__(self, parts):
        # A copy: the asker may change the list.
        self.parts = list(parts)

    def beneath(self):
        return list(self.parts)

    def holds(self, values):
        return any([part.holds(values) for part in self.parts])

    def shown(self):
        return " or ".join([shown_in(part, isinstance(part, OneOf)) for part in self.parts])


def shown_in(question, in_brackets):
    return "(" + question.shown() + ")" if in_brackets else question.shown()
