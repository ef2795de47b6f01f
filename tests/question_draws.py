"""Questions drawn for the tests, and how two of them are compared."""

from runmarks.questions import AllOf, Every, Nobody, OneOf, Opposite, Within


def fields(question):
    """A question as plain tuples: two are alike just where these are equal."""
    if isinstance(question, Within):
        return ("Within", question.name, question.low, question.high)
    if isinstance(question, Opposite):
        return ("Opposite", fields(question.one))
    if isinstance(question, (AllOf, OneOf)):
        return (type(question).__name__, [fields(part) for part in question.parts])
    return (type(question).__name__,)


def drawn_question(source, names, bounds, depth):
    """bounds gives, for a name, a pair (low, high) drawn from a source."""
    shape = source.random()
    if depth == 0 or shape < 0.25:
        if source.random() < 0.08:
            return source.choice((Every, Nobody))()
        name = source.choice(names)
        return Within(name, *bounds(source, name))
    if shape < 0.42:
        return Opposite(drawn_question(source, names, bounds, depth - 1))
    parts = [drawn_question(source, names, bounds, depth - 1) for k in range(source.choice((0, 1, 2, 2, 2, 3, 3, 4)))]
    if parts and source.random() < 0.3:
        parts.insert(source.randrange(len(parts) + 1), source.choice(parts))
    return (AllOf if shape < 0.71 else OneOf)(parts)
