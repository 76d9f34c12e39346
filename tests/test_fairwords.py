"""[22] Papers of fair words, told of small tables."""

import itertools
import unittest
from fractions import Fraction
from random import Random

from tellfew.errors import TooGreat
from tellfew.fairchecks import fair_words_holds
from tellfew.fairwords import fair_words
from tellfew.likes import numbered, unlike_rows
from tellfew.words import is_telling
from tests.things import a_table, check_same, check_true

THREE = ((0,), (1,), (2,))


def answers_by(telling):
    words, answers = telling
    return [answers[word] for word in words]


def own_tellings(table, many):
    """All tellings of at most many words, for each word with answers of its own rows."""
    m, n = len(table), len(table[0])
    for words in itertools.product(range(min(many, m)), repeat=m):
        if words != numbered(words):
            continue
        choices = [sorted({table[i][j] for i in range(m) if words[i] == word})
                   for word in range(max(words) + 1) for j in range(n)]
        for told in itertools.product(*choices):
            yield words, tuple(told[at:at + n] for at in range(0, len(told), n))


def all_tellings(table, many, answers):
    """All tellings of just many words with such answers."""
    rows = list(itertools.product(answers, repeat=len(table[0])))
    for words in itertools.product(range(many), repeat=len(table)):
        for told in itertools.product(rows, repeat=many):
            yield words, told


def lost(table, weights, telling):
    return sum(weights[i][j] for i, row in enumerate(answers_by(telling)) for j, answer in enumerate(row)
               if answer != table[i][j])


class FairWords(unittest.TestCase):

    def check_told(self, table, many, value=None, tellings=None):
        """All that [22] says of a paper, gone through here; its value."""
        paper = fair_words(table, many)
        self.assertIs(type(paper), tuple)
        (top, bottom), draws, weights = paper
        self.assertEqual([type(part) for part in paper + (top, bottom)], [tuple, tuple, tuple, int, int])
        found = Fraction(top, bottom)
        self.assertEqual((found.numerator, found.denominator), (top, bottom))
        self.check_draws(table, many, draws, found)
        self.assertEqual([type(row) for row in weights], [tuple] * len(table))
        self.assertEqual([len(row) for row in weights], [len(row) for row in table])
        self.assertTrue(all(type(weight) is int and weight >= 0 for row in weights for weight in row))
        total = sum(map(sum, weights))
        self.assertGreater(total, 0)
        for telling in tellings or own_tellings(table, many):
            self.assertGreaterEqual(lost(table, weights, telling), found * total)
        check_true(self, fair_words_holds(table, many, paper))
        self.assertEqual(found == 0, len(unlike_rows(table)) <= many)
        if value is not None:
            self.assertEqual(found, value)
        return found

    def check_draws(self, table, many, draws, value):
        self.assertGreater(len(draws), 0)
        for draw in draws:
            self.assertIs(type(draw), tuple)
            weight, telling = draw
            self.assertIs(type(weight), int)
            self.assertGreaterEqual(weight, 1)
            check_true(self, is_telling(len(table), len(table[0]), telling))
            self.assertLessEqual(len(telling[1]), many)
        total = sum(weight for weight, _ in draws)
        for i, row in enumerate(table):
            for j, answer in enumerate(row):
                wrong = sum(weight for weight, telling in draws if answers_by(telling)[i][j] != answer)
                self.assertLessEqual(wrong, value * total)

    def test_one_column(self):
        self.check_told(((7,),), 1, 0)
        self.check_told(((0,), (1,)), 1, Fraction(1, 2))
        self.check_told(((0,), (1,)), 2, 0)
        self.check_told(THREE, 1, Fraction(2, 3))
        self.check_told(THREE, 2, Fraction(1, 3))
        self.check_told(THREE, 3, 0)
        for many, value in ((1, Fraction(3, 4)), (2, Fraction(1, 2)), (3, Fraction(1, 4)), (4, 0)):
            self.check_told(((99,), (3,), (0,), (50,)), many, value)

    def test_well_known_ones(self):
        self.check_told(((0, 1), (1, 0)), 1, Fraction(1, 2))
        self.check_told(((0, 0), (0, 1)), 1, Fraction(1, 2))
        self.check_told(((0, 0, 0), (0, 1, 1)), 1, Fraction(1, 2))
        self.check_told(((0, 1, 2), (3, 4, 5), (6, 7, 8), (9, 10, 11)), 1, Fraction(3, 4))
        self.check_told(((1, 0, 0), (0, 1, 0), (0, 0, 1)), 3, 0)
        self.check_told(((5, 5, 5),) * 4, 1, 0)

    def test_more_rows_that_are_alike(self):
        # The answer that two rows have goes no more often: each pair counts alone.
        self.check_told(((0,), (0,), (1,)), 1, Fraction(1, 2))
        self.check_told(((0,), (0,), (0,), (1,)), 1, Fraction(1, 2))
        self.check_told(((0, 0, 0), (0, 0, 0), (1, 1, 1), (2, 2, 2)), 2, Fraction(1, 3))

    def test_all_tables_of_two_answers(self):
        for m, n in ((1, 1), (2, 1), (1, 3), (2, 2), (3, 2), (2, 3)):
            for answers in itertools.product((0, 1), repeat=m * n):
                table = tuple(answers[at:at + n] for at in range(0, m * n, n))
                for many in (1, 2, 3):
                    self.check_told(table, many)

    def test_every_telling_of_many_words(self):
        chance = Random(181)
        for m, n, many in ((2, 2, 1), (3, 2, 1), (2, 3, 1), (3, 1, 2), (3, 2, 2), (4, 1, 2), (4, 1, 3), (2, 2, 2)):
            for _ in range(3):
                table = a_table(chance, m, n, 2 if n > 1 else 4)
                answers = sorted({answer for row in table for answer in row} | {9})
                self.check_told(table, many, tellings=all_tellings(table, many, answers))

    def test_all_sizes_and_any_answers(self):
        chance = Random(182)
        for m in range(1, 5):
            for n in range(1, 4):
                for answers in (2, 3, 100):
                    table = a_table(chance, m, n, answers)
                    for many in (1, 2, 3, 4, 12):
                        self.check_told(table, many)

    def test_many_from_one_to_twelve(self):
        chance = Random(183)
        for answers in (2, 3, 100):
            table = a_table(chance, 4, 3, answers)
            values = [self.check_told(table, many) for many in range(1, 13)]
            self.assertEqual(values, sorted(values, reverse=True))
            self.assertEqual(values[3:], [0] * 9)

    def test_the_greatest(self):
        chance = Random(184)
        for answers in (2, 3, 4):
            for _ in range(4):
                table = a_table(chance, 4, 3, answers)
                for many in (1, 2, 3):
                    self.check_told(table, many)

    def test_changed_over(self):
        chance = Random(185)
        for _ in range(10):
            table = a_table(chance, chance.randint(1, 4), chance.randint(1, 3), 3)
            for many in (1, 2):
                value = self.check_told(table, many)
                self.check_told(table[::-1], many, value)
                self.check_told(tuple(row[::-1] for row in table), many, value)
                self.check_told(tuple(tuple(99 - answer for answer in row) for row in table), many, value)
                if len(table[0]) < 3:
                    self.check_told(tuple(row + row[:1] for row in table), many, value)
                if len(table) < 4:
                    self.check_told(table + table[:1], many, value)

    def test_five_rows_or_four_columns(self):
        tables = [((1,),) * 5, ((1, 2, 3, 4),), ((1,) * 4,) * 4, ((1, 2, 3),) * 5, ((0,) * 12,) * 12, ((5,),) * 12,
                  ((5,) * 12,), ((1, 1, 1, 1), (2, 2, 2, 2)), tuple((k, k, k) for k in range(5)), ((0,) * 3,) * 6]
        for table in tables:
            for many in (1, 2, 4, 12):
                with self.assertRaises(TooGreat) as caught:
                    fair_words(table, many)
                self.assertIs(type(caught.exception), TooGreat)
        check_same(self, fair_words(((1, 2, 3),) * 4, 1)[0], (0, 1))


if __name__ == "__main__":
    unittest.main()
