"""[24] Fewer draws."""

import itertools
import unittest
from random import Random

from tellfew.fairwords import fair_words
from tellfew.fewer import fewer
from tellfew.words import one_word, wrong_pairs
from tests.things import a_table, check_same, some_draws

TABLE = ((1, 2), (3, 4))
RIGHT = ((0, 1), ((1, 2), (3, 4)))
# Each is wrong at one pair.
AT = {(0, 0): ((0, 1), ((0, 2), (3, 4))), (0, 1): ((0, 1), ((1, 0), (3, 4))),
      (1, 0): ((0, 1), ((1, 2), (0, 4))), (1, 1): ((0, 1), ((1, 2), (3, 0)))}
ALL_WRONG = ((0, 0), ((0, 0),))


def by_its_meaning(table, draws, top, bottom):
    """The first of all numbers of draws, by how many they are and as tuples, that are wrong so often at most."""
    wrong = [set(wrong_pairs(table, telling)) for _, telling in draws]
    pairs = [(i, j) for i in range(len(table)) for j in range(len(table[0]))]
    fitting = []
    for chosen in itertools.product((0, 1), repeat=len(draws)):
        numbers = tuple(k for k, sign in enumerate(chosen) if sign)
        if numbers and all(sum(pair in wrong[k] for k in numbers) * bottom <= top * len(numbers) for pair in pairs):
            fitting.append((len(numbers), numbers))
    return min(fitting)[1] if fitting else None


class Fewer(unittest.TestCase):

    def test_one_at_least_even_where_nothing_is_wrong(self):
        draws = ((1, RIGHT),) * 3
        for top, bottom in ((0, 1), (0, 7), (1, 2), (5, 1)):
            check_same(self, fewer(TABLE, draws, top, bottom), (0,))

    def test_top_nought(self):
        check_same(self, fewer(TABLE, ((1, ALL_WRONG), (1, AT[0, 1]), (1, RIGHT), (1, RIGHT)), 0, 1), (2,))
        check_same(self, fewer(TABLE, ((1, ALL_WRONG), (1, AT[0, 1])), 0, 5), None)
        check_same(self, fewer(TABLE, ((1, AT[1, 1]),), 0, 1), None)

    def test_top_as_great_as_bottom_and_greater(self):
        draws = ((1, ALL_WRONG), (1, RIGHT))
        for top, bottom in ((1, 1), (7, 7), (2, 1), (8, 7), (10 ** 39, 1)):
            check_same(self, fewer(TABLE, draws, top, bottom), (0,))
        check_same(self, fewer(TABLE, draws, 10 ** 39 - 1, 10 ** 39), (1,))

    def test_the_first_as_tuples(self):
        draws = tuple((1, AT[pair]) for pair in sorted(AT))
        check_same(self, fewer(TABLE, draws, 1, 2), (0, 1))
        check_same(self, fewer(TABLE, draws, 1, 3), (0, 1, 2))
        check_same(self, fewer(TABLE, draws, 1, 4), (0, 1, 2, 3))
        check_same(self, fewer(TABLE, draws, 1, 5), None)
        check_same(self, fewer(TABLE, draws, 2, 3), (0, 1))
        # Of four draws but the first two, which are wrong at one pair.
        draws = ((1, AT[0, 0]), (1, AT[0, 0]), (1, AT[1, 0]), (1, AT[0, 1]))
        check_same(self, fewer(TABLE, draws, 1, 2), (0, 2))
        check_same(self, fewer(TABLE, draws, 1, 3), (0, 2, 3))
        check_same(self, fewer(TABLE, ((1, ALL_WRONG),) + draws, 1, 2), (1, 3))
        check_same(self, fewer(TABLE, ((1, ALL_WRONG),) + draws, 1, 3), (1, 3, 4))

    def test_the_fewest_go_ahead_of_the_first(self):
        draws = ((1, AT[0, 0]), (1, AT[0, 1]), (1, RIGHT))
        check_same(self, fewer(TABLE, draws, 1, 2), (2,))
        check_same(self, fewer(TABLE, draws[:2], 1, 2), (0, 1))

    def test_just_as_many_are_wrong(self):
        draws = ((1, AT[0, 0]), (1, AT[1, 1]))
        check_same(self, fewer(TABLE, draws, 1, 2), (0, 1))
        check_same(self, fewer(TABLE, draws, 10, 20), (0, 1))
        check_same(self, fewer(TABLE, draws, 10 ** 38, 2 * 10 ** 38), (0, 1))
        check_same(self, fewer(TABLE, draws, 10 ** 38 - 1, 2 * 10 ** 38), None)
        check_same(self, fewer(TABLE, draws, 49, 100), None)

    def test_weights_are_not_looked_at(self):
        draws = ((10 ** 6, AT[0, 0]), (1, AT[1, 1]))
        check_same(self, fewer(TABLE, draws, 1, 2), (0, 1))
        check_same(self, fewer(TABLE, ((1, ALL_WRONG), (10 ** 6, RIGHT)), 1, 2), (1,))

    def test_none(self):
        check_same(self, fewer(TABLE, ((1, ALL_WRONG),) * 8, 99, 100), None)
        check_same(self, fewer(((5,),), ((4, ((0,), ((6,),))),), 1, 2), None)

    def test_one_draw(self):
        check_same(self, fewer(((5,),), ((4, ((0,), ((5,),))),), 0, 1), (0,))
        check_same(self, fewer(((5,),), ((4, ((0,), ((6,),))),), 1, 1), (0,))

    def test_by_its_meaning(self):
        chance = Random(211)
        for _ in range(120):
            table = a_table(chance, chance.randint(1, 3), chance.randint(1, 3), 2)
            draws = some_draws(chance, table, chance.randint(1, 8), chance.randint(1, 3), 2)
            top, bottom = chance.randint(0, 4), chance.randint(1, 7)
            check_same(self, fewer(table, draws, top, bottom), by_its_meaning(table, draws, top, bottom))

    def test_eight_draws_of_twelve_rows_and_columns(self):
        chance = Random(212)
        table = a_table(chance, 12, 12, 2)
        draws = some_draws(chance, table, 8, 12, 2, most=10 ** 6)
        for top, bottom in ((1, 2), (7, 8), (99, 100), (1, 1), (0, 1)):
            check_same(self, fewer(table, draws, top, bottom), by_its_meaning(table, draws, top, bottom))
        # Each of eight is wrong in a row of its own: an eighth of all at each pair.
        words, answers = tuple(range(12)), tuple((i,) * 12 for i in range(12))
        draws = tuple((1, (words, answers[:k] + ((99,) * 12,) + answers[k + 1:])) for k in range(8))
        check_same(self, fewer(answers, draws, 1, 8), tuple(range(8)))
        check_same(self, fewer(answers, draws, 1, 9), None)
        check_same(self, fewer(answers, draws[:7] + ((1, one_word(answers)),), 1, 9), (7,))

    def test_what_was_told_of_fair_words(self):
        chance = Random(213)
        for _ in range(6):
            table = a_table(chance, 4, 3, 2)
            _, draws, _ = fair_words(table, 1)
            for top, bottom in ((1, 2), (2, 3), (3, 4)):
                check_same(self, fewer(table, draws, top, bottom), by_its_meaning(table, draws, top, bottom))


if __name__ == "__main__":
    unittest.main()
