"""The refusals: one class for each, all of them under MarksError."""


class MarksError(ValueError):
    pass


class NoNumber(MarksError):
    pass


class NoPlace(MarksError):
    pass


class BadTape(MarksError):
    def __init__(self, place):
        MarksError.__init__(self, f"this is no tape of a set, by place {place}")
        self.place = place


class BadText(MarksError):
    def __init__(self, place):
        MarksError.__init__(self, f"this is no question, by place {place}")
        self.place = place


class BadValue(MarksError):
    pass


class BadColumn(MarksError):
    pass


class NoColumn(MarksError):
    def __init__(self, name):
        MarksError.__init__(self, f"there is no column {name!r}")
        self.name = name


class NoRow(MarksError):
    pass


class RowThere(MarksError):
    pass


class NoLine(MarksError):
    pass
