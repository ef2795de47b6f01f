"""Texts of questions: names, figures, and how a text is read as a question."""

from runmarks.errors import BadText
from runmarks.questions import AllOf, Every, Nobody, OneOf, Opposite, Within

WORDS = ("and", "or", "not", "all", "none", "is", "from", "to")
LETTERS = "abcdefghijklmnopqrstuvwxyz"
FIGURES = "0123456789"
LONGEST_NAME = 8
LONGEST_FIGURES = 12
DEEPEST = 20


def is_of(word, signs):
    return all([sign in signs for sign in word])


def is_name(word):
    return 1 <= len(word) <= LONGEST_NAME and is_of(word, LETTERS) and word not in WORDS


def figures_of(word):
    if not 1 <= len(word) <= LONGEST_FIGURES or not is_of(word, FIGURES):
        return None
    if word[0] == "0" and word != "0":
        return None
    return int(word)


def cut(text):
    # Words as tuples (word, place). Behind the last one a word without signs stands for the text's end.
    words = []
    word = ""
    for place, sign in enumerate(text):
        if sign not in (" ", "(", ")"):
            word = word + sign
            continue
        if word != "":
            words.append((word, place - len(word)))
        word = ""
        if sign != " ":
            words.append((sign, place))
    if word != "":
        words.append((word, len(text) - len(word)))
    words.append(("", len(text)))
    return words


class Words:
    # The words of a text, and how far they are read.
    def __init__(self, text):
        self.cut_up = cut(text)
        self.reached = 0

    def here(self):
        return self.cut_up[self.reached][0]

    def step(self):
        self.reached = self.reached + 1

    def begins(self):
        return self.cut_up[self.reached][1]

    def pass_by(self, word):
        if self.here() != word:
            raise BadText(self.begins())
        self.step()

    def figures(self):
        number = figures_of(self.here())
        if number is None:
            raise BadText(self.begins())
        self.step()
        return number


def read_question(text):
    words = Words(text)
    question = read_chains(words, 0)
    words.pass_by("")
    return question


def read_chains(words, deep):
    # deep is how many of not and opening brackets go round what is read.
    chains = [read_chain(words, deep)]
    while words.here() == "or":
        words.step()
        chains.append(read_chain(words, deep))
    return chains[0] if len(chains) == 1 else OneOf(chains)


def read_chain(words, deep):
    pieces = [read_piece(words, deep)]
    while words.here() == "and":
        words.step()
        pieces.append(read_piece(words, deep))
    return pieces[0] if len(pieces) == 1 else AllOf(pieces)


def read_piece(words, deep):
    word = words.here()
    if word in ("not", "(") and deep < DEEPEST:
        words.step()
        return read_opposite(words, deep + 1) if word == "not" else read_brackets(words, deep + 1)
    if word == "all":
        words.step()
        return Every()
    if word == "none":
        words.step()
        return Nobody()
    if is_name(word):
        words.step()
        return read_within(words, word)
    raise BadText(words.begins())


def read_opposite(words, deep):
    return Opposite(read_piece(words, deep))


def read_brackets(words, deep):
    question = read_chains(words, deep)
    words.pass_by(")")
    return question


def read_within(words, name):
    if words.here() == "is":
        words.step()
        low = words.figures()
        return Within(name, low, low)
    words.pass_by("from")
    low = words.figures()
    words.pass_by("to")
    high = words.figures()
    return Within(name, low, high)
