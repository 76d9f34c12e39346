"""[5] What is numbered as it comes; unlike rows and columns."""

import unittest

from tellfew.likes import numbered, unlike_cols, unlike_rows
from tellfew.tables import turned
from tests.things import check_same, nested, some_tables


class Numbered(unittest.TestCase):

    def test_of_none(self):
        check_same(self, numbered(()), ())

    def test_whole_numbers(self):
        check_same(self, numbered((5, 3, 5, 9, 3, 0)), (0, 1, 0, 2, 1, 3))
        check_same(self, numbered((0,)), (0,))
        check_same(self, numbered((-1, -2, 10 ** 39, -1, 10 ** 39)), (0, 1, 2, 0, 2))
        check_same(self, numbered((2, 1, 0)), (0, 1, 2))

    def test_texts(self):
        check_same(self, numbered(("b", "a", "", "b", "B", "", " ")), (0, 1, 2, 0, 3, 2, 4))

    def test_tuples(self):
        check_same(self, numbered(((1, 2), (2, 1), (), (1, 2), ())), (0, 1, 2, 0, 2))
        check_same(self, numbered(((1, 11), (11, 1), (1, 1, 1), (111,), (11, 1))), (0, 1, 2, 3, 1))
        check_same(self, numbered(((1, (2, "x")), (1, (2, "y")), (1, (2, "x")))), (0, 1, 0))

    def test_things_of_unlike_kinds_are_unlike(self):
        check_same(self, numbered((1, "1", (1,), ("1",), ((1,),), "(1,)", 1, "1")), (0, 1, 2, 3, 4, 5, 0, 1))
        check_same(self, numbered(((1, 2), ("1", "2"), "1, 2", ("1, 2",))), (0, 1, 2, 3))

    def test_things_nested_deep(self):
        deep, other = nested(1, 20), nested(2, 20)
        check_same(self, numbered((deep, other, nested(1, 19), nested(1, 20))), (0, 1, 2, 0))

    def test_the_first_has_nought_and_each_new_one_the_next(self):
        for table in some_tables(4, 30, most=8):
            numbers = numbered(table)
            for i, number in enumerate(numbers):
                same = [k for k in range(i) if table[k] == table[i]]
                self.assertEqual(number, numbers[same[0]] if same else len(set(numbers[:i])))

    def test_many(self):
        check_same(self, numbered(tuple(k % 300 for k in range(900))), tuple(k % 300 for k in range(900)))


class Unlike(unittest.TestCase):

    def test_rows(self):
        check_same(self, unlike_rows(((1, 2), (1, 2), (2, 1), (1, 2), (2, 2))), (0, 2, 4))
        check_same(self, unlike_rows(((1, 11), (11, 1))), (0, 1))
        check_same(self, unlike_rows(((1, 1, 11), (11, 1, 1), (1, 11, 1), (1, 1, 11))), (0, 1, 2))
        check_same(self, unlike_rows(((7,),)), (0,))
        check_same(self, unlike_rows(((7, 8),) * 12), (0,))

    def test_columns(self):
        check_same(self, unlike_cols(((1, 1, 2, 1, 2), (2, 2, 1, 2, 2))), (0, 2, 4))
        check_same(self, unlike_cols(((1, 11), (11, 1))), (0, 1))
        check_same(self, unlike_cols(((7,),)), (0,))
        check_same(self, unlike_cols(((7,) * 12,)), (0,))

    def test_rows_and_columns_are_not_mixed_up(self):
        check_same(self, unlike_rows(((1, 2, 3),)), (0,))
        check_same(self, unlike_cols(((1, 2, 3),)), (0, 1, 2))

    def test_by_their_meaning(self):
        for table in some_tables(5, 60, most=6, answers=2):
            rows = [i for i in range(len(table)) if all(table[k] != table[i] for k in range(i))]
            check_same(self, unlike_rows(table), tuple(rows))
            check_same(self, unlike_cols(table), unlike_rows(turned(table)))
            numbers = numbered(table)
            check_same(self, unlike_rows(table), tuple(numbers.index(k) for k in range(max(numbers) + 1)))

    def test_twelve_of_each(self):
        table = tuple(tuple(i * j % 7 for j in range(12)) for i in range(12))
        check_same(self, unlike_rows(table), tuple(range(7)))
        check_same(self, unlike_cols(table), tuple(range(7)))


if __name__ == "__main__":
    unittest.main()
