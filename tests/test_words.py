"""[11], [12] Tellings by one word."""

import itertools
import unittest
from random import Random

from tellfew.likes import numbered, unlike_rows
from tellfew.words import is_telling, one_word, told_by, wrong_pairs
from tests.things import (a_table, check_none_of, check_same, check_true, nested, nested_dict, odd_things, some_tables)

# For three rows and two columns.
TELLING = ((1, 0, 1), ((7, 8), (5, 9)))


class IsTelling(unittest.TestCase):

    def check_no_tellings(self, things, m=3, n=2):
        check_none_of(self, lambda thing: is_telling(m, n, thing), things)

    def test_tellings(self):
        check_true(self, is_telling(3, 2, TELLING))
        check_true(self, is_telling(1, 1, ((0,), ((0,),))))
        check_true(self, is_telling(1, 1, ((0,), ((99,),))))
        check_true(self, is_telling(12, 12, (tuple(range(12)), ((99,) * 12,) * 12)))

    def test_words_that_no_row_has(self):
        check_true(self, is_telling(3, 2, ((0, 0, 0), ((1, 2), (3, 4), (1, 2)))))
        check_true(self, is_telling(3, 2, ((2, 2, 2), ((1, 2), (1, 2), (1, 2)))))
        check_true(self, is_telling(1, 1, ((3,), ((1,),) * 4)))

    def test_no_bound_is_looked_at(self):
        check_true(self, is_telling(40, 2, (tuple(range(40)), ((1, 2),) * 40)))
        check_true(self, is_telling(3, 2, ((19, 0, 12), ((1, 2),) * 20)))
        check_true(self, is_telling(1, 60, ((0,), ((4,) * 60,))))

    def test_words_that_are_none(self):
        for word in (True, False, -1, 2, 3, 10 ** 39, -(10 ** 39), "0", "", None, (), (0,), [0], {}):
            for at in range(3):
                words = [0, 1, 1]
                words[at] = word
                self.check_no_tellings([(tuple(words), TELLING[1])])
        self.check_no_tellings([((1, 0, 1), ((7, 8),)), ((0, 0, 3), ((7, 8),) * 3)])

    def test_too_few_or_too_many_words(self):
        self.check_no_tellings([(words, TELLING[1]) for words in ((), (0,), (0, 1), (0, 1, 0, 1), (0,) * 12)])
        self.check_no_tellings([TELLING], 2, 2)
        self.check_no_tellings([TELLING], 4, 2)

    def test_words_in_other_things(self):
        self.check_no_tellings([(words, TELLING[1]) for words in ([1, 0, 1], "101", {0: 1, 1: 0, 2: 1}, None, 1, True)])

    def test_no_answers(self):
        self.check_no_tellings([((0, 0, 0), ()), ((), ()), ((0, 0, 0), ((),)), ((0, 0, 0), None), ((0, 0, 0), 5)])
        self.check_no_tellings([((0, 0, 0), "78"), ((0, 0, 0), [(7, 8)]), ((0, 0, 0), {0: (7, 8)}), ((0, 0, 0), True)])

    def test_answers_that_are_none(self):
        for answer in (True, False, -1, 100, 10 ** 39, "7", "", None, (), (7,), [7], {}):
            self.check_no_tellings([((1, 0, 1), ((answer, 8), (5, 9))), ((1, 0, 1), ((7, 8), (5, answer)))])
            # Of a word that no row has, too.
            self.check_no_tellings([((1, 0, 1), ((7, 8), (5, 9), (answer, 9)))])

    def test_rows_of_answers_that_are_none(self):
        for row in ((), (7,), (7, 8, 9), [7, 8], "78", None, 7, {0: 7, 1: 8}, True, ((7, 8),)):
            self.check_no_tellings([((1, 0, 1), (row, (5, 9))), ((1, 0, 1), ((5, 9), row)),
                                    ((1, 0, 1), ((5, 9), (5, 9), row))])
        self.check_no_tellings([TELLING], 3, 1)
        self.check_no_tellings([TELLING], 3, 3)

    def test_parts_missing_or_too_many(self):
        self.check_no_tellings([(), TELLING[:1], TELLING[1:], TELLING + ((),), TELLING + TELLING, TELLING[::-1]])

    def test_lists_and_dicts(self):
        self.check_no_tellings([list(TELLING), {0: TELLING[0], 1: TELLING[1]}, dict([TELLING]), [TELLING], (TELLING,)])

    def test_of_anything(self):
        self.check_no_tellings(odd_things())
        self.check_no_tellings(odd_things(), 1, 1)
        for thing in [nested(0, 28), nested_dict(0, 28), nested((7, 8), 27, list)]:
            self.check_no_tellings([(thing, TELLING[1]), (TELLING[0], thing), ((0, 0, 0), ((7, 8), thing))])


class ToldBy(unittest.TestCase):

    def test_answers(self):
        told = tuple(tuple(told_by(TELLING, i, j) for j in range(2)) for i in range(3))
        check_same(self, told, ((5, 9), (7, 8), (5, 9)))

    def test_words_that_no_row_has(self):
        check_same(self, told_by(((2,), ((1,), (2,), (3,))), 0, 0), 3)

    def test_more_than_twelve_words(self):
        telling = (tuple(range(19, -1, -1)), tuple((k, 99 - k) for k in range(20)))
        for i in range(20):
            check_same(self, told_by(telling, i, 0), 19 - i)
            check_same(self, told_by(telling, i, 1), 80 + i)


class WrongPairs(unittest.TestCase):

    def test_none(self):
        check_same(self, wrong_pairs(((5, 9), (7, 8), (5, 9)), TELLING), ())

    def test_rising(self):
        check_same(self, wrong_pairs(((5, 8), (7, 7), (4, 9)), TELLING), ((0, 1), (1, 1), (2, 0)))
        check_same(self, wrong_pairs(((0, 0), (0, 0)), ((0, 0), ((1, 1),))), ((0, 0), (0, 1), (1, 0), (1, 1)))

    def test_by_their_meaning(self):
        chance = Random(61)
        for table in some_tables(62, 60, most=5):
            m, n = len(table), len(table[0])
            many = chance.randint(1, 4)
            telling = (tuple(chance.randrange(many) for _ in range(m)), a_table(chance, many, n, 3))
            wrong = [(i, j) for i in range(m) for j in range(n) if telling[1][telling[0][i]][j] != table[i][j]]
            check_same(self, wrong_pairs(table, telling), tuple(sorted(wrong)))

    def test_of_great_ones(self):
        table = ((0,) * 12,) * 12
        check_same(self, wrong_pairs(table, (tuple(range(12)), ((1,) * 12,) * 12)),
                   tuple((i, j) for i in range(12) for j in range(12)))
        telling = ((14,) * 11 + (3,), tuple((int(k == 3),) * 12 for k in range(15)))
        check_same(self, wrong_pairs(table, telling), tuple((11, j) for j in range(12)))


class OneWord(unittest.TestCase):

    def test_words_are_numbers_of_rows(self):
        table = ((1, 2), (3, 3), (1, 2), (2, 1), (3, 3))
        check_same(self, one_word(table), ((0, 1, 0, 2, 1), ((1, 2), (3, 3), (2, 1))))
        check_same(self, one_word(((7,),)), ((0,), ((7,),)))
        check_same(self, one_word(((7, 1),) * 12), ((0,) * 12, ((7, 1),)))
        check_same(self, one_word(((1, 11), (11, 1), (1, 11))), ((0, 1, 0), ((1, 11), (11, 1))))

    def test_no_pair_is_wrong(self):
        for table in some_tables(63, 60, most=12) + [tuple(tuple(range(k, k + 12)) for k in range(12))]:
            telling = one_word(table)
            check_true(self, is_telling(len(table), len(table[0]), telling))
            check_same(self, wrong_pairs(table, telling), ())
            check_same(self, telling[0], numbered(table))
            check_same(self, telling[1], tuple(table[i] for i in unlike_rows(table)))

    def test_no_right_telling_has_fewer_words(self):
        for table in some_tables(64, 60, most=4, answers=2):
            many = len(one_word(table)[1])
            for words in itertools.product(range(many - 1), repeat=len(table)):
                parted = any(words[i] == words[k] and table[i] != table[k]
                             for i in range(len(table)) for k in range(len(table)))
                self.assertTrue(parted)


if __name__ == "__main__":
    unittest.main()
