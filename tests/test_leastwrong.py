"""[15] Weights and least wrong."""

import itertools
import unittest
from random import Random

from tellfew.errors import TooGreat
from tellfew.leastwrong import least_wrong
from tellfew.likes import unlike_rows
from tellfew.words import is_telling, wrong_pairs
from tests.things import a_table, check_same, check_true


def some_weights(chance, m, n, most):
    return tuple(tuple(chance.randint(0, most) for _ in range(n)) for _ in range(m))


def all_the_same(m, n, weight=1):
    return ((weight,) * n,) * m


def weighed(table, weights, telling):
    return sum(weights[i][j] for i, j in wrong_pairs(table, telling))


def least_of_all(table, weights, many):
    """The least weight of all tellings of just so many words."""
    m, n = len(table), len(table[0])
    answers = sorted({answer for row in table for answer in row})
    rows = list(itertools.product(answers, repeat=n))
    return min(weighed(table, weights, (words, told))
               for words in itertools.product(range(many), repeat=m)
               for told in itertools.product(rows, repeat=many))


def least_of_ways(table, weights, many):
    """The same of greater ones: for all words the answers with the greatest weight."""
    m, n = len(table), len(table[0])

    def lost(rows, j):
        return sum(weights[i][j] for i in rows) - max(
            sum(weights[i][j] for i in rows if table[i][j] == answer) for answer in {table[i][j] for i in rows})
    best = None
    for words in itertools.product(range(min(many, m)), repeat=m):
        groups = [[i for i in range(m) if words[i] == word] for word in set(words)]
        weight = sum(lost(rows, j) for rows in groups for j in range(n))
        best = weight if best is None else min(best, weight)
    return best


class LeastWrong(unittest.TestCase):

    def check_told(self, table, weights, many, expected):
        told = least_wrong(table, weights, many)
        self.assertIs(type(told), tuple)
        weight, telling = told
        check_true(self, is_telling(len(table), len(table[0]), telling))
        self.assertLessEqual(len(telling[1]), many)
        check_same(self, weight, expected)
        self.assertEqual(weighed(table, weights, telling), expected)

    def test_one_word(self):
        table = ((1, 2), (1, 3), (2, 3))
        self.check_told(table, all_the_same(3, 2), 1, 2)
        self.check_told(table, ((1, 5), (1, 1), (5, 1)), 1, 4)
        self.check_told(((1,),), ((9,),), 1, 0)

    def test_the_weight_goes_not_the_number(self):
        self.check_told(((1,), (1,), (1,), (2,)), ((1,), (1,), (1,), (4,)), 1, 3)
        self.check_told(((1,), (1,), (1,), (2,)), ((1,), (1,), (1,), (2,)), 1, 2)
        check_same(self, least_wrong(((1,), (1,), (2,)), ((1,), (1,), (9,)), 1), (2, ((0, 0, 0), ((2,),))))

    def test_columns_go_by_themselves(self):
        self.check_told(((1, 2, 3), (3, 2, 1), (1, 9, 1)), all_the_same(3, 3), 1, 3)

    def test_weights_all_nought(self):
        chance = Random(91)
        for many in (1, 2, 12):
            table = a_table(chance, 6, 12, 100)
            self.check_told(table, all_the_same(6, 12, 0), many, 0)

    def test_as_many_words_as_unlike_rows(self):
        chance = Random(92)
        for _ in range(30):
            m, n = chance.randint(1, 6), chance.randint(1, 4)
            table = a_table(chance, m, n, 2)
            many = len(unlike_rows(table))
            self.check_told(table, all_the_same(m, n, 10 ** 6), many, 0)
            check_same(self, wrong_pairs(table, least_wrong(table, all_the_same(m, n), many)[1]), ())
            if many > 1:
                self.assertGreater(least_wrong(table, all_the_same(m, n), many - 1)[0], 0)

    def test_more_words_than_rows(self):
        self.check_told(((1, 2), (3, 4)), all_the_same(2, 2), 12, 0)
        self.check_told(((5,),), ((10 ** 6,),), 12, 0)

    def test_the_least_of_all_tellings(self):
        chance = Random(93)
        for m, n, many in ((2, 2, 1), (3, 2, 2), (3, 1, 2), (4, 1, 3), (2, 3, 1), (3, 2, 1), (4, 2, 2)):
            for _ in range(4):
                table, weights = a_table(chance, m, n, 3 if n == 1 else 2), some_weights(chance, m, n, 5)
                self.check_told(table, weights, many, least_of_all(table, weights, many))

    def test_the_least_of_all_words(self):
        chance = Random(94)
        for _ in range(25):
            m, n, many = chance.randint(1, 5), chance.randint(1, 4), chance.randint(1, 4)
            table, weights = a_table(chance, m, n, 3), some_weights(chance, m, n, 9)
            self.check_told(table, weights, many, least_of_ways(table, weights, many))

    def test_more_words_are_no_oftener_wrong(self):
        chance = Random(95)
        for _ in range(10):
            table, weights = a_table(chance, 6, 4, 3), some_weights(chance, 6, 4, 10 ** 6)
            told = [least_wrong(table, weights, many)[0] for many in range(1, 13)]
            self.assertEqual(told, sorted(told, reverse=True))
            self.assertEqual(told[5:], [0] * 7)

    def test_six_rows_and_twelve_columns(self):
        chance = Random(96)
        for many in (1, 2, 3, 5, 6, 12):
            table, weights = a_table(chance, 6, 12, 3), some_weights(chance, 6, 12, 10 ** 6)
            expected = least_of_ways(table, weights, many) if many < 5 else least_wrong(table, weights, many)[0]
            self.check_told(table, weights, many, expected)
        table = tuple(tuple(range(12 * i, 12 * i + 12)) for i in range(6))
        self.check_told(table, all_the_same(6, 12, 10 ** 6), 5, 12 * 10 ** 6)
        self.check_told(table, all_the_same(6, 12, 10 ** 6), 1, 60 * 10 ** 6)

    def test_six_rows_that_are_alike(self):
        self.check_told(((1, 2),) * 6, all_the_same(6, 2, 7), 1, 0)
        self.check_told(((1, 2),) * 6, all_the_same(6, 2, 7), 12, 0)

    def test_seven_rows(self):
        for table in (((1, 2),) * 7, tuple((k,) for k in range(7)), ((0,) * 12,) * 12, ((1,),) * 6 + ((2,),)):
            for many in (1, 2, 7, 12):
                with self.assertRaises(TooGreat) as caught:
                    least_wrong(table, all_the_same(len(table), len(table[0])), many)
                self.assertIs(type(caught.exception), TooGreat)
                with self.assertRaises(TooGreat):
                    least_wrong(table, all_the_same(len(table), len(table[0]), 0), many)


if __name__ == "__main__":
    unittest.main()
