"""Point 2 and the interface's part on runmarks/errors.py."""

import unittest

from runmarks.errors import (
    BadColumn, BadTape, BadText, BadValue, MarksError, NoColumn, NoLine, NoNumber, NoPlace, NoRow, RowThere,
)

TEN = (NoNumber, NoPlace, BadTape, BadText, BadValue, BadColumn, NoColumn, NoRow, RowThere, NoLine)
BY_WORDS = (NoNumber, NoPlace, BadValue, BadColumn, NoRow, RowThere, NoLine)


class WhoStandsUnderWhom(unittest.TestCase):
    def test_marks_error_stands_under_value_error(self):
        self.assertTrue(issubclass(MarksError, ValueError))
        self.assertIsNot(MarksError, ValueError)

    def test_each_of_the_ten_stands_under_marks_error(self):
        self.assertEqual(len(set(TEN)), 10)
        for error in TEN:
            with self.subTest(error=error.__name__):
                self.assertTrue(issubclass(error, MarksError))
                self.assertTrue(issubclass(error, ValueError))
                self.assertIsNot(error, MarksError)

    def test_none_of_the_ten_stands_under_another(self):
        for error in TEN:
            for other in TEN:
                if error is not other:
                    with self.subTest(error=error.__name__, other=other.__name__):
                        self.assertFalse(issubclass(error, other))

    def test_names(self):
        told = [error.__name__ for error in TEN]
        self.assertEqual(told, [
            "NoNumber", "NoPlace", "BadTape", "BadText", "BadValue",
            "BadColumn", "NoColumn", "NoRow", "RowThere", "NoLine",
        ])


class Made(unittest.TestCase):
    def test_made_with_a_text(self):
        for error in BY_WORDS + (MarksError,):
            with self.subTest(error=error.__name__):
                with self.assertRaises(MarksError) as caught:
                    raise error("something is said")
                self.assertIs(type(caught.exception), error)
                self.assertIn("something is said", str(caught.exception))

    def test_made_with_a_place(self):
        for error in (BadTape, BadText):
            for place in (0, 1, 17, 80000):
                with self.subTest(error=error.__name__, place=place):
                    with self.assertRaises(error) as caught:
                        raise error(place)
                    self.assertEqual(caught.exception.place, place)
                    self.assertIs(type(caught.exception.place), int)

    def test_made_with_a_name(self):
        for name in ("", "a", "colour", "two words", "{x}"):
            with self.subTest(name=name):
                with self.assertRaises(NoColumn) as caught:
                    raise NoColumn(name)
                self.assertEqual(caught.exception.name, name)

    def test_two_side_by_side_keep_their_own_fields(self):
        for error in (BadTape, BadText):
            one, other = error(3), error(9)
            self.assertEqual((one.place, other.place), (3, 9))
        one, other = NoColumn("ape"), NoColumn("bee")
        self.assertEqual((one.name, other.name), ("ape", "bee"))
        tape, text = BadTape(5), BadText(6)
        self.assertEqual((tape.place, text.place), (5, 6))


if __name__ == "__main__":
    unittest.main()
