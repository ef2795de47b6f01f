"""Questions walked key by key over columns and rows; what is touched on the way, and how much it can be at most."""

from runmarks.errors import NoColumn
from runmarks.kept import kept
from runmarks.marks import gathered
from runmarks.questions import AllOf, Every, Nobody, OneOf, Opposite, Within


def check_name(name, columns):
    if name not in columns:
        raise NoColumn(name)


def check_names(question, columns):
    for name in question.mentions():
        check_name(name, columns)


# A note of a question is a tuple (what is known of it, the notes of the questions beneath it): so a walk asks
# the books once for each leaf at a key, however deep the leaf stands.


def note_without_books(question):
    return ("some", [note_without_books(part) for part in question.beneath()])


def note_at(question, columns, key):
    notes = [note_at(part, columns, key) for part in question.beneath()]
    return (known_by(question, columns, key, [note[0] for note in notes]), notes)


def known_by(question, columns, key, told):
    # told is what is known of the questions beneath.
    if isinstance(question, Every):
        return "all"
    if isinstance(question, Nobody):
        return "none"
    if isinstance(question, Within):
        return columns[question.name].known_at(key, question.low, question.high)
    if isinstance(question, Opposite):
        return turned(told[0])
    if isinstance(question, AllOf):
        return known_of_all(told)
    # One of several holds just where not all of their opposites hold.
    return turned(known_of_all([turned(each) for each in told]))


def turned(told):
    if told == "some":
        return "some"
    return "all" if told == "none" else "none"


def known_of_all(told):
    if "none" in told:
        return "none"
    return "some" if "some" in told else "all"


class Spot:
    # A key at which a question is walked: the word of its rows, and what has been touched so far.
    def __init__(self, columns, at_key, live):
        self.columns = columns
        self.at_key = at_key
        self.live = live
        self.touched = {}

    def holding(self, question, note):
        # The word of the places for which the question holds.
        if note[0] == "none" or isinstance(question, Nobody):
            return 0
        if note[0] == "all" or isinstance(question, Every):
            return self.live
        if isinstance(question, Within):
            return self.looked_up(question)
        if isinstance(question, Opposite):
            return self.live & ~self.holding(question.one, note[1][0])
        if isinstance(question, AllOf):
            return self.holding_all(question.parts, note[1])
        return self.holding_one(question.parts, note[1])

    def looked_up(self, within):
        column = self.columns[within.name]
        for number in column.touched_at(self.at_key, within.low, within.high):
            self.touched[(self.at_key, within.name, number)] = True
        return column.word_at(self.at_key, within.low, within.high)

    def holding_all(self, parts, notes):
        left = self.live
        for part, note in zip(parts, notes):
            if left == 0:
                return 0
            left = left & self.holding(part, note)
        return left

    def holding_one(self, parts, notes):
        found = 0
        for part, note in zip(parts, notes):
            if found == self.live:
                return found
            found = found | self.holding(part, note)
        return found


def walked(question, columns, rows):
    check_names(question, columns)
    note = note_without_books(question)
    return walked_by_notes(question, columns, rows, lambda key: note)


def walked_by_books(question, columns, rows):
    check_names(question, columns)
    return walked_by_notes(question, columns, rows, lambda key: note_at(question, columns, key))


def walked_by_notes(question, columns, rows, note_of):
    pairs = []
    touches = []
    for key in rows.key_list():
        spot = Spot(columns, key, rows.word_at(key))
        pairs.append((key, kept(spot.holding(question, note_of(key)))))
        touches.extend(sorted(spot.touched))
    return (gathered(pairs), touches)


def known(question, columns, key):
    check_names(question, columns)
    return note_at(question, columns, key)[0]


def bound(question, columns, rows):
    check_names(question, columns)
    return sum([bound_at(question, note_at(question, columns, key), columns, key) for key in rows.key_list()])


def bound_at(question, note, columns, key):
    if note[0] != "some":
        return 0
    if isinstance(question, Within):
        return len(columns[question.name].touched_at(key, question.low, question.high))
    return sum([bound_at(part, below, columns, key) for part, below in zip(question.beneath(), note[1])])


def summed(name, question, columns, rows):
    check_name(name, columns)
    found, touches = walked_by_books(question, columns, rows)
    column = columns[name]
    for key in found.key_list():
        touches.extend([(key, name, number) for number in column.numbers_at(key)])
    return (column.total(found), sorted(set(touches)))
