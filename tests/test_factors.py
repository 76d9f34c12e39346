"""[18] Factors by a prime."""

import itertools
import unittest
from random import Random

from tellfew.factors import factors
from tellfew.likes import unlike_rows
from tellfew.ranks import ranked
from tests.things import PRIMES, a_table, check_same


class Factors(unittest.TestCase):

    def check_factors(self, table, p, rank=None):
        told = factors(table, p)
        self.assertIs(type(told), tuple)
        left, right = told
        r = len(ranked(table, p)[0]) if rank is None else rank
        self.check_rows(left, len(table), r, p)
        self.check_rows(right, r, len(table[0]), p)
        for row, times in zip(table, left):
            for j, answer in enumerate(row):
                made = sum(one * other[j] for one, other in zip(times, right))
                self.assertEqual((made - answer) % p, 0)

    def check_rows(self, rows, count, many, p):
        self.assertIs(type(rows), tuple)
        self.assertEqual(len(rows), count)
        for row in rows:
            self.assertIs(type(row), tuple)
            self.assertEqual(len(row), many)
            self.assertTrue(all(type(number) is int and 0 <= number < p for number in row))

    def test_small_ones(self):
        self.check_factors(((1,),), 2, 1)
        self.check_factors(((1, 2), (2, 4)), 5, 1)
        self.check_factors(((1, 2), (2, 5)), 5, 2)
        self.check_factors(((2, 4, 6), (3, 6, 2)), 7, 1)
        self.check_factors(((99, 98), (97, 96)), 97, 2)
        self.check_factors(((99, 1), (2, 1)), 97, 1)

    def test_rank_nought(self):
        for p in PRIMES:
            check_same(self, factors(((0, 0, 0),) * 2, p), (((), ()), ()))
            check_same(self, factors(((0, p, 99 // p * p),) * 3, p), (((),) * 3, ()))

    def test_by_each_prime(self):
        chance = Random(131)
        for p in PRIMES:
            for answers in (2, p + 1, 100):
                for _ in range(4):
                    table = a_table(chance, chance.randint(1, 6), chance.randint(1, 6), min(answers, 100))
                    self.check_factors(table, p)

    def test_all_of_three_rows_and_columns(self):
        for answers in itertools.product((0, 1), repeat=9):
            table = (answers[:3], answers[3:6], answers[6:])
            self.check_factors(table, 2)
            self.check_factors(table, 3)

    def test_rows_twice_and_multiples(self):
        chance = Random(132)
        for p in (2, 3, 7, 47):
            row = tuple(chance.randrange(p) for _ in range(5))
            table = tuple(tuple(number * times % p for number in row) for times in range(5)) + (row,)
            self.check_factors(table, p)
            self.assertLessEqual(len(factors(table, p)[1]), 1)

    def test_twelve_rows_and_columns(self):
        chance = Random(133)
        for p in (2, 5, 97):
            self.check_factors(a_table(chance, 12, 12, 100), p)
            self.check_factors(((99,) * 12,) * 12, p, 1)
        self.check_factors(tuple(tuple(int(i == j) for j in range(12)) for i in range(12)), 97, 12)

    def test_at_most_p_by_itself_rows_are_unlike(self):
        chance = Random(134)
        for p in (2, 3):
            for _ in range(30):
                rank = chance.randint(0, 2)
                right = a_table(chance, rank, 4, p)
                table = tuple(tuple(sum(times[k] * right[k][j] for k in range(rank)) % p for j in range(4))
                              for times in a_table(chance, 12, rank, p))
                self.check_factors(table, p)
                self.assertLessEqual(len(unlike_rows(table)), p ** len(factors(table, p)[1]))


if __name__ == "__main__":
    unittest.main()
