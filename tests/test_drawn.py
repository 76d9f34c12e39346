"""[21] Draws in common, and where they are wrong."""

import unittest
from random import Random

from tellfew.drawn import worst, wrong_in
from tellfew.words import one_word, wrong_pairs
from tests.things import a_table, check_same, some_draws

TABLE = ((1, 2), (3, 4))
RIGHT = ((0, 1), ((1, 2), (3, 4)))
FIRST_ROW = ((0, 0), ((1, 2),))
ALL_WRONG = ((1, 0), ((0, 0), (0, 0), (1, 2)))


def weights_wrong(table, draws):
    """For each pair the weights of the draws among whose wrong pairs it is."""
    return tuple(tuple(sum(weight for weight, telling in draws if (i, j) in wrong_pairs(table, telling))
                       for j in range(len(row))) for i, row in enumerate(table))


class WrongIn(unittest.TestCase):

    def test_one_telling(self):
        check_same(self, wrong_in(TABLE, ((1, RIGHT),)), ((0, 0), (0, 0)))
        check_same(self, wrong_in(TABLE, ((7, FIRST_ROW),)), ((0, 0), (7, 7)))
        check_same(self, wrong_in(TABLE, ((10 ** 6, ALL_WRONG),)), ((10 ** 6,) * 2,) * 2)
        check_same(self, wrong_in(((5,),), ((3, ((0,), ((5,),))),)), ((0,),))
        check_same(self, wrong_in(((5,),), ((3, ((0,), ((6,),))),)), ((3,),))

    def test_several_tellings(self):
        draws = ((2, RIGHT), (3, FIRST_ROW), (5, ALL_WRONG), (11, ((0, 1), ((1, 0), (3, 0)))))
        check_same(self, wrong_in(TABLE, draws), ((5, 16), (8, 19)))
        check_same(self, wrong_in(TABLE, ((1, FIRST_ROW),) * 4), ((0, 0), (4, 4)))

    def test_rows_and_columns(self):
        table = ((0, 0, 1),)
        check_same(self, wrong_in(table, ((4, ((0,), ((0, 1, 1),))),)), ((0, 4, 0),))
        check_same(self, wrong_in(((0,), (0,), (1,)), ((4, ((0, 1, 1), ((0,), (1,)))),)), ((0,), (4,), (0,)))

    def test_by_their_meaning(self):
        chance = Random(171)
        for _ in range(60):
            table = a_table(chance, chance.randint(1, 5), chance.randint(1, 5), 3)
            draws = some_draws(chance, table, chance.randint(1, 6), chance.randint(1, 4), 3)
            check_same(self, wrong_in(table, draws), weights_wrong(table, draws))

    def test_sixteen_tellings_of_twelve_rows_and_columns(self):
        chance = Random(172)
        table = a_table(chance, 12, 12, 3)
        draws = some_draws(chance, table, 16, 12, 3, most=10 ** 6)
        check_same(self, wrong_in(table, draws), weights_wrong(table, draws))
        check_same(self, wrong_in(table, ((10 ** 6, one_word(table)),) * 16), ((0,) * 12,) * 12)
        wrong = (one_word(table)[0], tuple(tuple(answer + 1 for answer in row) for row in one_word(table)[1]))
        check_same(self, wrong_in(table, ((10 ** 6, wrong),) * 16), ((16 * 10 ** 6,) * 12,) * 12)


class Worst(unittest.TestCase):

    def test_the_first_pair_with_the_greatest_weight(self):
        check_same(self, worst(TABLE, ((7, FIRST_ROW),)), (7, (1, 0)))
        check_same(self, worst(TABLE, ((2, RIGHT), (3, FIRST_ROW), (5, ALL_WRONG))), (8, (1, 0)))
        check_same(self, worst(TABLE, ((10 ** 6, ALL_WRONG),)), (10 ** 6, (0, 0)))
        # One is wrong in the second column, another one in the second row.
        draws = ((1, ((0, 1), ((1, 0), (3, 0)))), (1, ((0, 1), ((1, 2), (0, 0)))))
        check_same(self, worst(TABLE, draws), (2, (1, 1)))
        check_same(self, worst(TABLE, draws[:1]), (1, (0, 1)))
        check_same(self, worst(TABLE, draws[1:]), (1, (1, 0)))

    def test_no_pair_is_wrong(self):
        check_same(self, worst(TABLE, ((1, RIGHT),)), (0, (0, 0)))
        check_same(self, worst(((5,),), ((9, ((0,), ((5,),))),)), (0, (0, 0)))
        check_same(self, worst(((0,) * 12,) * 12, ((10 ** 6, ((0,) * 12, ((0,) * 12,))),) * 16), (0, (0, 0)))

    def test_each_pair(self):
        for at in range(12):
            i, j = at // 4, at % 4
            table = tuple(tuple(int((row, col) == (i, j)) for col in range(4)) for row in range(3))
            check_same(self, worst(table, ((5, ((0,) * 3, ((0,) * 4,))),)), (5, (i, j)))

    def test_by_its_meaning(self):
        chance = Random(173)
        for _ in range(80):
            table = a_table(chance, chance.randint(1, 4), chance.randint(1, 4), 2)
            draws = some_draws(chance, table, chance.randint(1, 4), 2, 2, most=2)
            found = weights_wrong(table, draws)
            greatest = max(max(row) for row in found)
            pairs = [(i, j) for i, row in enumerate(found) for j, weight in enumerate(row) if weight == greatest]
            check_same(self, worst(table, draws), (greatest, min(pairs)))

    def test_sixteen_tellings_of_twelve_rows_and_columns(self):
        chance = Random(174)
        table = a_table(chance, 12, 12, 3)
        draws = some_draws(chance, table, 16, 12, 3, most=10 ** 6)
        weight, (i, j) = worst(table, draws)
        found = weights_wrong(table, draws)
        self.assertEqual(weight, max(max(row) for row in found))
        self.assertEqual(found[i][j], weight)


if __name__ == "__main__":
    unittest.main()
