"""Point 69: questions answered plainly."""

import copy
import unittest

from examples import Checks
from runmarks.plainly import plain_least, plain_rows, plain_total
from runmarks.questions import AllOf, Every, Nobody, OneOf, Opposite, Within

TABLE = {
    300: {"a": 1, "b": -5}, 2: {"a": 7, "b": 3}, 65535: {"a": 1, "b": -5}, 0: {"a": 0, "b": 10 ** 99},
    17: {"a": -4, "b": 3},
}


class Plainly(Checks):
    def test_rows_rise(self):
        self.assertEqual(plain_rows(Every(), TABLE), [0, 2, 17, 300, 65535])
        self.assertEqual(plain_rows(Nobody(), TABLE), [])
        self.assertEqual(plain_rows(Within("a", 1, 7), TABLE), [2, 300, 65535])
        self.assertEqual(plain_rows(Within("a", -9, 0), TABLE), [0, 17])
        self.assertEqual(plain_rows(Within("a", 7, 1), TABLE), [])
        self.assertEqual(plain_rows(Opposite(Within("b", 3, 3)), TABLE), [0, 300, 65535])
        question = OneOf([AllOf([Within("a", 1, 1), Within("b", -5, -5)]), Within("b", 10 ** 99, 10 ** 99)])
        self.assertEqual(plain_rows(question, TABLE), [0, 300, 65535])

    def test_total(self):
        self.same(plain_total("a", Every(), TABLE), 5)
        self.same(plain_total("b", Within("a", 1, 1), TABLE), -10)
        self.same(plain_total("b", Every(), TABLE), 10 ** 99 - 4)
        self.same(plain_total("a", Nobody(), TABLE), 0)

    def test_least(self):
        self.same(plain_least("b", Every(), TABLE), (-5, [300, 65535]))
        self.same(plain_least("a", Every(), TABLE), (-4, [17]))
        self.same(plain_least("a", Within("b", 3, 3), TABLE), (-4, [17]))
        self.same(plain_least("b", Within("a", -4, 0), TABLE), (3, [17]))
        self.same(plain_least("b", Within("a", 0, 0), TABLE), (10 ** 99, [0]))
        self.assertIs(type(plain_least("a", Every(), TABLE)[1]), list)

    def test_none(self):
        self.assertIsNone(plain_least("a", Nobody(), TABLE))
        self.assertIsNone(plain_least("a", Every(), {}))
        self.assertEqual(plain_rows(Every(), {}), [])
        self.same(plain_total("a", Every(), {}), 0)

    def test_the_table_stays(self):
        table = copy.deepcopy(TABLE)
        plain_rows(Every(), table).append(9)
        plain_total("a", Every(), table)
        plain_least("a", Every(), table)[1].append(9)
        self.assertEqual(table, TABLE)
        self.assertEqual(list(table), list(TABLE))


if __name__ == "__main__":
    unittest.main()
