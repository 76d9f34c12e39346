"""[30] Two tables at once."""

import itertools
import unittest
from random import Random

from tellfew.likes import unlike_cols, unlike_rows
from tellfew.ranks import ranked
from tellfew.tables import is_table, turned
from tellfew.tabletexts import read_table, show_table
from tellfew.together import added, both, times
from tests.things import a_table, check_same, check_true

ONE = ((1, 2), (3, 4), (5, 6))
OTHER = ((7, 0, 8),)
FEW = [(many, other) for many in range(1, 13) for other in range(1, 13) if many * other <= 12]


def some_pairs(seed, many, answers=10):
    """Tables of all kinds of sizes whose products are at most twelve, two by two."""
    chance = Random(seed)
    pairs = []
    for _ in range(many):
        (m, k), (n, l) = chance.choice(FEW), chance.choice(FEW)
        pairs.append((a_table(chance, m, n, answers), a_table(chance, k, l, answers)))
    return pairs


def by_its_meaning(one, other, made):
    m, n, k, l = len(one), len(one[0]), len(other), len(other[0])
    table = [[None] * (n * l) for _ in range(m * k)]
    for i, j, r, c in itertools.product(range(m), range(n), range(k), range(l)):
        table[i * k + r][j * l + c] = made(one[i][j], other[r][c])
    return tuple(tuple(row) for row in table)


class Together(unittest.TestCase):

    def check_all(self, one, other, qs=(1, 2, 19, 100)):
        check_same(self, both(one, other), by_its_meaning(one, other, lambda a, b: 10 * a + b))
        check_same(self, times(one, other), by_its_meaning(one, other, lambda a, b: a * b))
        for q in qs:
            check_same(self, added(one, other, q), by_its_meaning(one, other, lambda a, b: (a + b) % q))

    def test_small_ones(self):
        check_same(self, both(ONE, OTHER), ((17, 10, 18, 27, 20, 28), (37, 30, 38, 47, 40, 48),
                                            (57, 50, 58, 67, 60, 68)))
        check_same(self, both(OTHER, ONE), ((71, 72, 1, 2, 81, 82), (73, 74, 3, 4, 83, 84), (75, 76, 5, 6, 85, 86)))
        check_same(self, times(ONE, OTHER), ((7, 0, 8, 14, 0, 16), (21, 0, 24, 28, 0, 32), (35, 0, 40, 42, 0, 48)))
        check_same(self, added(ONE, OTHER, 10), ((8, 1, 9, 9, 2, 0), (0, 3, 1, 1, 4, 2), (2, 5, 3, 3, 6, 4)))
        check_same(self, both(((1,), (2,)), ((3,), (4,))), ((13,), (14,), (23,), (24,)))
        check_same(self, both(((1, 2),), ((3,), (4,))), ((13, 23), (14, 24)))

    def test_one_pair(self):
        for a, b in itertools.product(range(10), repeat=2):
            one, other = ((a,),), ((b,),)
            check_same(self, both(one, other), ((10 * a + b,),))
            check_same(self, times(one, other), ((a * b,),))
            for q in range(1, 101):
                check_same(self, added(one, other, q), (((a + b) % q,),))

    def test_the_least_and_the_greatest_answers(self):
        noughts, nines = ((0, 0), (0, 0)), ((9, 9), (9, 9))
        check_same(self, both(noughts, noughts), ((0,) * 4,) * 4)
        check_same(self, both(nines, nines), ((99,) * 4,) * 4)
        check_same(self, both(nines, noughts), ((90,) * 4,) * 4)
        check_same(self, both(noughts, nines), ((9,) * 4,) * 4)
        check_same(self, times(nines, nines), ((81,) * 4,) * 4)
        check_same(self, times(nines, noughts), ((0,) * 4,) * 4)
        for q, rest in ((1, 0), (2, 0), (17, 1), (18, 0), (19, 18), (100, 18)):
            check_same(self, added(nines, nines, q), ((rest,) * 4,) * 4)

    def test_all_sizes(self):
        chance = Random(341)
        for (m, k), (n, l) in itertools.product(FEW, repeat=2):
            one, other = a_table(chance, m, n, 10), a_table(chance, k, l, 10)
            self.check_all(one, other, (chance.choice((1, 2, 19, 100)),))

    def test_one_row_and_twelve_columns(self):
        chance = Random(342)
        for m, n in ((1, 12), (12, 1), (12, 12), (1, 1)):
            table = a_table(chance, m, n, 10)
            for small in (((0,),), ((1,),), ((9,),)):
                self.check_all(table, small)
                self.check_all(small, table)
        self.check_all(a_table(chance, 1, 12, 10), a_table(chance, 12, 1, 10))
        self.check_all(a_table(chance, 12, 1, 10), a_table(chance, 1, 12, 10))

    def test_told_tables_are_tables(self):
        for one, other in some_pairs(343, 60):
            tables = [both(one, other), times(one, other)] + [added(one, other, q) for q in (1, 2, 19, 100)]
            for table in tables:
                check_true(self, is_table(table))
                self.assertEqual(len(table), len(one) * len(other))
                self.assertEqual(len(table[0]), len(one[0]) * len(other[0]))
                check_same(self, read_table(show_table(table)), table)

    def test_turned_about(self):
        for one, other in some_pairs(344, 30):
            check_same(self, turned(both(one, other)), both(turned(one), turned(other)))
            check_same(self, turned(times(one, other)), times(turned(one), turned(other)))
            check_same(self, turned(added(one, other, 19)), added(turned(one), turned(other), 19))

    def test_unlike_rows_are_as_many_as_theirs_multiplied(self):
        for one, other in some_pairs(345, 80, 2) + some_pairs(346, 40, 10):
            table = both(one, other)
            self.assertEqual(len(unlike_rows(table)), len(unlike_rows(one)) * len(unlike_rows(other)))
            self.assertEqual(len(unlike_cols(table)), len(unlike_cols(one)) * len(unlike_cols(other)))

    def test_ranks_of_times_are_multiplied(self):
        for one, other in some_pairs(347, 40, 3) + some_pairs(348, 20, 10) + [(((0,),), ((9,),))]:
            for p in (0, 2, 3, 97):
                rank = len(ranked(times(one, other), p)[0])
                self.assertEqual(rank, len(ranked(one, p)[0]) * len(ranked(other, p)[0]))


if __name__ == "__main__":
    unittest.main()
