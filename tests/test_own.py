"""[23] Own tellings, and draws led to own ones."""

import itertools
import unittest
from fractions import Fraction
from random import Random

from tellfew.drawn import wrong_in
from tellfew.fairwords import fair_words
from tellfew.own import own_of, own_wrong
from tests.things import a_table, check_same, some_draws

TABLE = ((1, 2), (3, 4))


def own_by_its_meaning(table, own):
    shares, answers = own
    found = []
    for i, row in enumerate(table):
        found.append([])
        for j, answer in enumerate(row):
            wrong = Fraction(0)
            for word, told in enumerate(answers):
                if told[j] != answer:
                    wrong += Fraction(shares[i][word], sum(shares[i]))
            found[-1].append((wrong.numerator, wrong.denominator))
    return tuple(tuple(row) for row in found)


def some_own(chance, table, words, answers, most=9):
    """An own telling of the table with so many words."""
    shares = []
    for _ in table:
        numbers = [chance.choice((0, chance.randint(0, most))) for _ in range(words)]
        numbers[chance.randrange(words)] = chance.randint(1, most)
        shares.append(tuple(numbers))
    return tuple(shares), a_table(chance, words, len(table[0]), answers)


class OwnWrong(unittest.TestCase):

    def test_one_word(self):
        check_same(self, own_wrong(TABLE, (((1,), (7,)), ((1, 4),))), (((0, 1), (1, 1)), ((1, 1), (0, 1))))
        check_same(self, own_wrong(((5,),), (((3,),), ((5,),))), (((0, 1),),))
        check_same(self, own_wrong(((5,),), (((3,),), ((6,),))), (((1, 1),),))

    def test_several_words(self):
        own = (((1, 2, 1), (0, 3, 1)), ((1, 2), (3, 4), (1, 4)))
        check_same(self, own_wrong(TABLE, own), (((1, 2), (3, 4)), ((1, 4), (0, 1))))

    def test_fractions_in_lowest_terms(self):
        own = (((2, 4, 6),), ((1,), (2,), (3,)))
        check_same(self, own_wrong(((1,),), own), (((5, 6),),))
        check_same(self, own_wrong(((2,),), own), (((2, 3),),))
        check_same(self, own_wrong(((3,),), own), (((1, 2),),))
        check_same(self, own_wrong(((4,),), own), (((1, 1),),))

    def test_shares_of_nought(self):
        own = (((0, 5, 0), (4, 0, 0)), ((1, 1), (2, 1), (9, 9)))
        check_same(self, own_wrong(((2, 1), (1, 1)), own), (((0, 1), (0, 1)), ((0, 1), (0, 1))))
        check_same(self, own_wrong(((9, 9), (2, 1)), own), (((1, 1), (1, 1)), ((1, 1), (0, 1))))

    def test_all_shares_of_the_row_go_not_those_of_others(self):
        own = (((1, 1), (1, 10 ** 39)), ((0,), (1,)))
        check_same(self, own_wrong(((0,), (1,)), own), (((1, 2),), ((1, 10 ** 39 + 1),)))

    def test_by_its_meaning(self):
        chance = Random(201)
        for _ in range(60):
            table = a_table(chance, chance.randint(1, 5), chance.randint(1, 5), 3)
            own = some_own(chance, table, chance.randint(1, 6), 3)
            check_same(self, own_wrong(table, own), own_by_its_meaning(table, own))

    def test_the_greatest(self):
        chance = Random(202)
        table = a_table(chance, 12, 12, 3)
        for words in (12, 192):
            own = some_own(chance, table, words, 3, most=10 ** 6)
            check_same(self, own_wrong(table, own), own_by_its_meaning(table, own))


class OwnOf(unittest.TestCase):

    def check_led(self, table, draws):
        """Led so, each pair is wrong by the same fraction as by the draws."""
        own = own_of(draws)
        shares, answers = own
        total = sum(weight for weight, _ in draws)
        self.assertEqual(len(shares), len(table))
        for row in shares:
            self.assertEqual(len(row), len(answers))
            self.assertEqual(sum(row), total)
        fractions = [[Fraction(*fraction) for fraction in row] for row in own_wrong(table, own)]
        self.assertEqual(fractions, [[Fraction(weight, total) for weight in row] for row in wrong_in(table, draws)])

    def test_one_telling(self):
        check_same(self, own_of(((3, ((0,), ((5,),))),)), (((3,),), ((5,),)))
        check_same(self, own_of(((3, ((1, 0, 1), ((5, 6), (7, 8), (9, 9)))),)),
                   (((0, 3, 0), (3, 0, 0), (0, 3, 0)), ((5, 6), (7, 8), (9, 9))))

    def test_several_tellings_one_behind_the_other(self):
        draws = ((3, ((1, 0), ((1, 1), (2, 2)))), (5, ((0, 0), ((7, 7),))), (2, ((2, 1), ((4, 4), (5, 5), (6, 6)))))
        check_same(self, own_of(draws), (((0, 3, 5, 0, 0, 2), (3, 0, 5, 0, 2, 0)),
                                         ((1, 1), (2, 2), (7, 7), (4, 4), (5, 5), (6, 6))))
        check_same(self, own_of(draws[1:2] * 2), (((5, 5), (5, 5)), ((7, 7), (7, 7))))
        self.check_led(((2, 1), (5, 7)), draws)

    def test_answers_that_are_alike_stay_words_of_their_own(self):
        draws = ((1, ((0, 1), ((1,), (1,)))), (2, ((1, 0), ((1,), (1,)))))
        check_same(self, own_of(draws), (((1, 0, 0, 2), (0, 1, 2, 0)), ((1,), (1,), (1,), (1,))))

    def test_as_often_wrong(self):
        chance = Random(203)
        for _ in range(40):
            table = a_table(chance, chance.randint(1, 5), chance.randint(1, 5), 3)
            self.check_led(table, some_draws(chance, table, chance.randint(1, 6), chance.randint(1, 4), 3))
        for answers in itertools.product((0, 1), repeat=4):
            table = (answers[:2], answers[2:])
            self.check_led(table, fair_words(table, 1)[1])

    def test_sixteen_tellings_of_twelve_words(self):
        chance = Random(204)
        table = a_table(chance, 12, 12, 3)
        draws = some_draws(chance, table, 16, 12, 3, most=10 ** 6)
        self.assertEqual(len(own_of(draws)[1]), 192)
        self.check_led(table, draws)


if __name__ == "__main__":
    unittest.main()
