"""Points 62 and 64 to 68: names, figures, texts of questions."""

import random
import unittest

from examples import Checks
from question_draws import fields
from runmarks.asking import figures_of, is_name, read_question
from runmarks.errors import BadText
from runmarks.questions import AllOf, Every, Nobody, OneOf, Opposite, Within

EIGHT = ("and", "or", "not", "all", "none", "is", "from", "to")
A1, B2, C3 = Within("a", 1, 1), Within("b", 2, 2), Within("c", 3, 3)


class NamesAndFigures(Checks):
    """Point 62."""

    def test_names(self):
        for word in ("a", "z", "ab", "abcdefgh", "zzzzzzzz", "ands", "no", "i", "tofrom", "nonee", "alls", "isis"):
            self.assertIs(is_name(word), True, word)

    def test_no_names(self):
        words = ("", "abcdefghi", "A", "Ab", "aB", "a1", "1", "a b", " a", "a ", "a_b", "(", "-", "\u00e4", "\u0430", "a\n")
        for word in EIGHT + words:
            self.assertIs(is_name(word), False, word)

    def test_figures(self):
        for word in ("0", "1", "9", "10", "305", "100000000000", "999999999999"):
            self.same(figures_of(word), int(word))

    def test_no_figures(self):
        for word in ("", "00", "01", "007", "0000000000000", "1000000000000", "9999999999999", "-1", "+1", "1.0", "1e3",
                     " 1", "1 ", "1_0", "a", "0x1", "\u0661", "\u00b2", "1\n", "1a"):
            self.assertIsNone(figures_of(word), word)


class Read(Checks):
    """Points 64, 65 and 66."""

    def assert_read(self, text, question):
        self.assertEqual(fields(read_question(text)), fields(question), text)

    def test_pieces(self):
        self.assert_read("all", Every())
        self.assert_read("none", Nobody())
        self.assert_read("a is 1", A1)
        self.assert_read("colour from 3 to 9", Within("colour", 3, 9))
        self.assert_read("a from 9 to 3", Within("a", 9, 3))
        self.assert_read("a from 5 to 5", Within("a", 5, 5))
        self.assert_read("abcdefgh is 999999999999", Within("abcdefgh", 10 ** 12 - 1, 10 ** 12 - 1))
        self.assert_read("not a is 1", Opposite(A1))
        self.assert_read("not not none", Opposite(Opposite(Nobody())))
        self.assert_read("(a is 1)", A1)
        self.assert_read("((all))", Every())
        self.assert_read("not (a is 1)", Opposite(A1))

    def test_blanks(self):
        for text in ("  a is 1", "a is 1   ", "a   is  1", "   a  is   1  ", " ( a is 1 ) ", "(a is 1)", "( (a is 1 ))"):
            self.assert_read(text, A1)

    def test_brackets_without_blanks(self):
        self.assert_read("not(a is 1)", Opposite(A1))
        self.assert_read("(a is 1)and(b is 2)or(c is 3)", OneOf([AllOf([A1, B2]), C3]))
        self.assert_read("not((a is 1)or b is 2)", Opposite(OneOf([A1, B2])))

    def test_chains(self):
        self.assert_read("a is 1 and b is 2", AllOf([A1, B2]))
        self.assert_read("a is 1 or b is 2", OneOf([A1, B2]))
        self.assert_read("a is 1 or b is 2 and c is 3", OneOf([A1, AllOf([B2, C3])]))
        self.assert_read("a is 1 and b is 2 or c is 3", OneOf([AllOf([A1, B2]), C3]))
        self.assert_read("a is 1 and b is 2 and c is 3 or all or none", OneOf([AllOf([A1, B2, C3]), Every(), Nobody()]))
        self.assert_read("not a is 1 and b is 2", AllOf([Opposite(A1), B2]))
        self.assert_read("not a is 1 or not b is 2", OneOf([Opposite(A1), Opposite(B2)]))

    def test_brackets(self):
        self.assert_read("(a is 1 and b is 2) and c is 3", AllOf([AllOf([A1, B2]), C3]))
        self.assert_read("a is 1 or (b is 2 or c is 3)", OneOf([A1, OneOf([B2, C3])]))
        self.assert_read("a is 1 and (b is 2 or c is 3)", AllOf([A1, OneOf([B2, C3])]))
        self.assert_read("not (a is 1 and b is 2) and c is 3", AllOf([Opposite(AllOf([A1, B2])), C3]))

    def drawn(self, source, depth):
        shape = source.random()
        if depth == 0 or shape < 0.3:
            low, high = source.randrange(50), source.choice((0, 7, 10 ** 12 - 1))
            return source.choice((Every(), Nobody(), Within("a", low, high), Within("xyz", low, low)))
        if shape < 0.5:
            return Opposite(self.drawn(source, depth - 1))
        return source.choice((AllOf, OneOf))([self.drawn(source, depth - 1) for k in range(source.randrange(2, 4))])

    def test_what_is_shown_is_read_again(self):
        source = random.Random(66)
        for k in range(600):
            question = self.drawn(source, source.randrange(5))
            text = question.shown()
            self.assert_read(text, question)
            self.assert_read(text.replace(" ", "   "), question)
            self.same(read_question(text).shown(), text)


class Refused(Checks):
    """Points 67 and 68."""

    def assert_refused(self, text, place):
        with self.assertRaises(BadText) as caught:
            read_question(text)
        self.same(caught.exception.place, place)

    def assert_ends_early(self, text):
        self.assert_refused(text, len(text))
        self.assert_refused(text + "   ", len(text) + 3)

    def test_texts_that_end_too_early(self):
        for text in ("", "(", "not", "a", "a is", "a from", "a from 3", "a from 3 to", "a is 1 and", "a is 1 or",
                     "(a is 1", "((all)", "not (none or", "all and not", "a is 1 or b is 2 and (c from 1 to 2"):
            self.assert_ends_early(text)

    def test_blanks_alone(self):
        self.assert_refused("", 0)
        self.assert_refused(" ", 1)
        self.assert_refused("     ", 5)

    def test_at_the_begin_of_a_piece(self):
        for word in ("and", "or", "is", "from", "to", ")", "5", "A", "abcdefghi", "a1", "?", "\t", "a\tis", "\n", "all2"):
            for ahead in ("", "  ", "not ", "(", "a is 1 and ", "a is 1 or ", "not (b is 2 and "):
                self.assert_refused(ahead + word, len(ahead))
                self.assert_refused(ahead + word + " is 1 ) and", len(ahead))

    def test_behind_a_name(self):
        for word in ("and", "or", "not", "all", "none", "to", "(", ")", "5", "b", "IS", "is1", "=", "isfrom"):
            self.assert_refused("a " + word + " 1", 2)
            self.assert_refused("all and (abc  " + word, 14)

    def test_where_figures_ought_to_be(self):
        for word in ("and", "or", "not", "all", "none", "is", "from", "to", "(", ")", "a", "01", "00", "-1",
                     "1000000000000", "1.5", "\u0661"):
            self.assert_refused("a is " + word, 5)
            self.assert_refused("a from " + word + " to 3", 7)
            self.assert_refused("a from 7 to " + word + " and all", 12)

    def test_where_to_ought_to_be(self):
        for word in ("and", "or", "not", "all", "is", "from", "(", ")", "a", "5", "TO", "to5"):
            self.assert_refused("a from 7 " + word + " 9", 9)

    def test_behind_a_piece(self):
        for piece in ("all", "none", "a is 1", "a from 3 to 9", "(all)", "not all"):
            for word in ("not", "all", "none", "is", "from", "to", "(", "a", "5", ")", "AND", "?"):
                self.assert_refused(piece + " " + word + " x", len(piece) + 1)
                if word != ")":
                    self.assert_refused("(" + piece + " " + word + ")", len(piece) + 2)

    def test_brackets(self):
        self.assert_refused(")", 0)
        self.assert_refused("()", 1)
        self.assert_refused("(a is 1))", 8)
        self.assert_refused("(all) (all)", 6)
        self.assert_refused("all(", 3)
        self.assert_refused("all)", 3)
        self.assert_refused("a(is 1", 1)

    def test_the_first_of_several(self):
        self.assert_refused("a is 01 and and b )", 5)
        self.assert_refused("  and or", 2)

    def test_twenty_within_one_another(self):
        for k in range(21):
            self.assertEqual(read_question("not " * k + "all").depth(), k)
            self.assertEqual(fields(read_question("(" * k + "all" + ")" * k)), ("Every",))
            text = "not " * k + "(" * (20 - k) + "a is 1" + ")" * (20 - k)
            self.assertEqual(read_question(text).depth(), k)
        self.assertEqual(read_question("not(" * 10 + "all or none" + ")" * 10).depth(), 11)

    def test_twenty_one(self):
        self.assert_refused("not " * 21 + "all", 80)
        self.assert_refused("(" * 21 + "all" + ")" * 21, 20)
        self.assert_refused("(" * 21, 20)
        self.assert_refused("not(" * 10 + "not all" + ")" * 10, 40)
        self.assert_refused("not(" * 10 + "(all)" + ")" * 10, 40)
        self.assert_refused("(" * 19 + "not all and not not all", 19 + 16)
        self.assert_refused("(" * 20, 20)

    def test_beside_one_another(self):
        self.assertEqual(len(read_question(" and ".join(["not (a is 1)"] * 30)).parts), 30)
        text = "(" * 19 + "not a is 1 and not b is 2 or (c is 3)" + ")" * 19
        self.assertEqual(read_question(text).leaves(), 3)
        text = "(" * 20 + "all" + ")" * 20 + " and " + "not " * 20 + "all"
        self.assertEqual(read_question(text).depth(), 21)

    def test_cut_short_or_spoilt(self):
        """The place is found anew by trying, for each beginning, whether some end makes it a question."""
        source = random.Random(67)
        words = ("and", "or", "not", "all", "is", "from", "to", "(", ")", "a", "b", "5", "0", "01", "Z")
        for k in range(3000):
            drawn = [source.choice(words) for word in range(source.randrange(1, 9))]
            text = " ".join(drawn)
            good = 0
            while good < len(drawn) and self.can_go_on(drawn[:good + 1]):
                good += 1
            if good < len(drawn):
                self.assert_refused(text, len(" ".join(drawn[:good])) + (1 if good else 0))
            elif not self.is_question(text):
                self.assert_ends_early(text)

    def is_question(self, text):
        try:
            read_question(text)
        except BadText:
            return False
        return True

    def can_go_on(self, words):
        closing = [")"] * (words.count("(") - words.count(")"))
        ends = ([], ["1"], ["is", "1"], ["to", "1"], ["1", "to", "1"], ["all"])
        return any(self.is_question(" ".join(words + end + closing)) for end in ends)


if __name__ == "__main__":
    unittest.main()
