"""Words: whole numbers from 0 to 2^256 - 1, seen as sets of places from 0 to 255."""

PLACES = 256

# Of each two neighbouring fields of 1, 2, 4 or 8 bits in a word the lower one.
LOWER_1 = 0x5555555555555555555555555555555555555555555555555555555555555555
LOWER_2 = 0x3333333333333333333333333333333333333333333333333333333333333333
LOWER_4 = 0x0F0F0F0F0F0F0F0F0F0F0F0F0F0F0F0F0F0F0F0F0F0F0F0F0F0F0F0F0F0F0F0F
LOWER_8 = 0x00FF00FF00FF00FF00FF00FF00FF00FF00FF00FF00FF00FF00FF00FF00FF00FF


def is_whole(thing):
    # True and False are ints to Python, but no whole numbers here.
    return isinstance(thing, int) and not isinstance(thing, bool)


def bit_at(word, place):
    return (word >> place) & 1


def all_below(place):
    return (1 << place) - 1


def without_first(word):
    # One less turns the lowest one and the zeros beneath it round, and nothing above.
    return word & (word - 1)


def counted(word):
    # All fields are added to their neighbours at once: this is asked far too often to go one by one.
    by_two = (word & LOWER_1) + ((word >> 1) & LOWER_1)
    by_four = (by_two & LOWER_2) + ((by_two >> 2) & LOWER_2)
    by_eight = (by_four & LOWER_4) + ((by_four >> 4) & LOWER_4)
    by_sixteen = (by_eight & LOWER_8) + ((by_eight >> 8) & LOWER_8)
    # What is left over by 2^16 - 1 is the sum of the fields of 16 bits, for each 2^16 leaves 1.
    return by_sixteen % 65535


def ones_below(word, place):
    return counted(word & all_below(place))


def one_at(word, k):
    for passed in range(k):
        word = without_first(word)
    return first_one(word)


def first_one(word):
    # A number and its negative have just the lowest one in common.
    return last_one(word & -word)


def last_one(word):
    if word == 0:
        return None
    return word.bit_length() - 1


def span_word(first, last):
    return all_below(last + 1) - all_below(first)


def word_of(places):
    word = 0
    for place in places:
        word = word | (1 << place)
    return word


def places_of(word):
    places = []
    while word > 0:
        places.append(first_one(word))
        word = without_first(word)
    return places


def runs_of(word):
    runs = []
    while word > 0:
        first = first_one(word)
        # One more at the run's begin carries past the whole run: the lowest one is then right behind it.
        behind = first_one(word + (1 << first))
        runs.append((first, behind - 1))
        word = word - span_word(first, behind - 1)
    return runs


def word_of_runs(runs):
    word = 0
    for first, last in runs:
        word = word | span_word(first, last)
    return word


def pushed(word, by):
    whole = word << by
    return (whole & all_below(PLACES), whole >> PLACES)


def bits_text(number, many):
    return "".join([str(bit_at(number, place)) for place in range(many - 1, -1, -1)])


def number_of(text):
    number = 0
    for sign in text:
        number = 2 * number + (1 if sign == "1" else 0)
    return number
