"""[22] Whether anything is a paper of fair words."""

import itertools
import unittest
from random import Random

from tellfew.fairchecks import fair_words_holds
from tellfew.fairwords import fair_words
from tellfew.words import one_word
from tests.things import (a_table, check_none_of, check_true, nested, nested_dict, odd_things, of_other_kinds,
                          some_draws, with_part)

GREAT = 10 ** 39
# By one word, one of two answers at each of two rows: each row is wrong half of the time.
TABLE = ((3, 5), (3, 6))
FIRST, SECOND = ((0, 0), ((3, 5),)), ((0, 0), ((3, 6),))
PAPER = ((1, 2), ((1, FIRST), (1, SECOND)), ((0, 1), (0, 1)))


def each_row_alone(m, n):
    """A table whose rows have each an answer of their own."""
    return tuple((7 * i,) * n for i in range(m))


def in_turn(table, many):
    """Draws of so many words by which each row is right as often as each other one."""
    m = len(table)
    draws = []
    for first in range(m):
        words = [0] * m
        for word in range(many):
            words[(first + word) % m] = word
        draws.append((5, (tuple(words), tuple(table[(first + word) % m] for word in range(many)))))
    return tuple(draws)


def fair_of_rows(m, n, many, value):
    """(table, paper): the weights are at the last column alone."""
    table = each_row_alone(m, n)
    return table, (value, in_turn(table, many), ((0,) * (n - 1) + (3,),) * m)


class FairWordsHolds(unittest.TestCase):

    def check_none_holds(self, things, table=TABLE, many=1):
        check_none_of(self, lambda thing: fair_words_holds(table, many, thing), things)

    def check_holds(self, thing, table=TABLE, many=1):
        check_true(self, fair_words_holds(table, many, thing))

    def test_what_is_told_here(self):
        chance = Random(191)
        for _ in range(12):
            table = a_table(chance, chance.randint(1, 4), chance.randint(1, 3), 3)
            for many in (1, 2, 3, 12):
                self.check_holds(fair_words(table, many), table, many)

    def test_papers_by_another_hand(self):
        self.check_holds(PAPER)
        self.check_holds(((1, 2), ((GREAT, FIRST), (GREAT, SECOND)), ((0, 1), (0, 1))))
        self.check_holds(((1, 2), ((1, FIRST), (2, SECOND), (1, FIRST)), ((0, 7), (0, 7))))
        self.check_holds(((1, 2), ((1, FIRST),) * 9 + ((9, SECOND),), ((0, GREAT), (0, GREAT))))
        # Words that no row has are among the answers of draws by more words.
        self.check_holds(((0, 1), ((1, ((2, 0), ((3, 6), (9, 9), (3, 5)))),), ((1, 0), (0, 0))), many=3)
        self.check_holds(((0, 1), ((1, one_word(TABLE)), (8, one_word(TABLE))), ((4, 0), (0, 10 ** 7))), many=2)

    def test_tables_of_six_rows_and_twelve_columns(self):
        for m, n in ((1, 1), (2, 12), (3, 2), (5, 12), (6, 1), (6, 12)):
            for many, value in ((1, (m - 1, m)), (2, (m - 2, m)), (m, (0, 1))):
                if many > m:
                    continue
                top, bottom = value
                common = next(k for k in range(m, 0, -1) if top % k == 0 and bottom % k == 0)
                value = (top // common, bottom // common)
                table, paper = fair_of_rows(m, n, many, value)
                self.check_holds(paper, table, many)
                self.check_holds(with_part(paper, (2,), ((0,) * (n - 1) + (GREAT,),) * m), table, many)
                if m > many:
                    # Right at one more row by one word more: the weights show no such value then.
                    self.check_none_holds([paper], table, many + 1)
                if many > 1:
                    self.check_none_holds([paper], table, many - 1)

    def test_sixteen_draws_of_twelve_words(self):
        chance = Random(192)
        table = a_table(chance, 6, 12, 3)
        words, answers = one_word(table)
        right = (tuple(word + 5 for word in words), (((0,) * 12,) * 5 + answers + ((1,) * 12,) * 12)[:12])
        weights = ((10 ** 6,) * 12,) * 6
        self.check_holds(((0, 1), ((10 ** 6, right),) * 16, weights), table, 12)
        self.check_none_holds([((1, GREAT), ((10 ** 6, right),) * 16, weights)], table, 12)
        self.check_none_holds([((0, 1), some_draws(chance, table, 16, 12, 3), weights)], table, 12)

    def test_tables_of_more_than_six_rows(self):
        for m in (7, 8, 12):
            table = ((4, 4),) * m
            paper = ((0, 1), ((1, ((0,) * m, ((4, 4),))),), ((1, 1),) * m)
            for many in (1, 12):
                self.check_none_holds([paper], table, many)
                self.check_none_holds(odd_things(), table, many)
            self.check_holds(((0, 1), ((1, ((0,) * 6, ((4, 4),))),), ((1, 1),) * 6), table[:6])
        table, paper = fair_of_rows(7, 2, 1, (6, 7))
        self.check_none_holds([paper], table)

    def test_a_value_a_little_too_great_or_too_small(self):
        for value in ((GREAT + 1, 2 * GREAT), (GREAT - 1, 2 * GREAT), (499, 999), (500, 999), (0, 1), (1, 1), (2, 5),
                      (3, 5), (-1, 2), (2, 1)):
            self.check_none_holds([(value,) + PAPER[1:]])
        table, paper = fair_of_rows(6, 12, 5, (1, 6))
        self.check_holds(paper, table, 5)
        for value in ((GREAT + 1, 6 * GREAT), (GREAT - 1, 6 * GREAT), (1, 5), (1, 7), (0, 1)):
            self.check_none_holds([(value,) + paper[1:]], table, 5)

    def test_a_value_that_is_no_fraction_in_lowest_terms(self):
        for value in ((2, 4), (-1, -2), (1, -2), (1, 0), (0, 0), (GREAT, 2 * GREAT), (1,), (1, 2, 1), (), 1, "1/2"):
            self.check_none_holds([(value,) + PAPER[1:]])
        right = ((0, 1), ((1, one_word(TABLE)),), ((1, 1), (1, 1)))
        self.check_holds(right, many=2)
        for value in ((0, 2), (0, -1), (0, 0), (0, GREAT), (-1, 1), (1, GREAT)):
            self.check_none_holds([(value,) + right[1:]], many=2)

    def test_draws_that_are_wrong_too_often_somewhere(self):
        for draws in (((1, FIRST),), ((1, SECOND),), ((1, FIRST), (2, SECOND)), ((GREAT, FIRST), (GREAT + 1, SECOND)),
                      ((1, FIRST), (1, ((0, 0), ((3, 7),)))), ((1, FIRST), (1, SECOND), (1, ((0, 0), ((4, 7),))))):
            self.check_none_holds([with_part(PAPER, (1,), draws)])
        self.check_none_holds([((1, 1), ((1, ((0, 0), ((0, 0),))),), ((0, 1), (0, 1)))])

    def test_weights_that_show_no_such_value(self):
        for weights in (((0, 1), (0, 0)), ((0, 0), (0, 1)), ((1, 1), (1, 1)), ((1, 0), (0, 0)), ((0, 1), (0, 2)),
                        ((0, GREAT), (0, GREAT - 1)), ((0, GREAT), (1, GREAT))):
            self.check_none_holds([with_part(PAPER, (2,), weights)])

    def test_all_tellings_are_looked_at(self):
        # By two words no more than two of three rows are right, but all weights are at rows that are told apart.
        table = ((0, 0), (1, 0), (2, 5))
        draws = in_turn(table, 2)
        self.check_holds(((1, 3), draws, ((1, 0), (1, 0), (1, 0))), table, 2)
        self.check_none_holds([((1, 3), draws, weights) for weights in (
            ((0, 1), (0, 1), (0, 1)), ((1, 0), (1, 0), (0, 1)), ((1, 0), (1, 0), (0, 0)), ((1, 0), (2, 0), (2, 0)))],
            table, 2)

    def test_weights_of_other_sizes_all_noughts_below_nought(self):
        for weights in ((), ((0, 1),), ((0, 1),) * 3, ((1,), (1,)), ((0, 1, 0),) * 2, ((0, 1), (1,)), ((0, 1), ()),
                        ((0, 1), (0, 1), ()), ((), ()), ((0, 0), (0, 0)), ((-1, 1), (0, 1)), ((0, -1), (0, -1)),
                        ((0, 1), (-GREAT, 1)), (0, 1, 0, 1), ((1,), (0, 1, 0)), ((0, 1, 0), (1,))):
            self.check_none_holds([with_part(PAPER, (2,), weights)])
        # All 0 would show any value.
        self.check_none_holds([((0, 1), ((1, ((0,), ((4,),))),), ((0,),))], ((4,),))
        self.check_holds(((0, 1), ((1, ((0,), ((4,),))),), ((1,),)), ((4,),))

    def test_draws_of_more_words_than_many(self):
        more = ((0, 0), ((3, 5), (3, 6)))
        self.check_none_holds([with_part(PAPER, (1, 0, 1), more)])
        self.check_none_holds([((0, 1), ((1, one_word(TABLE)),), ((1, 1), (1, 1)))])
        self.check_none_holds([((0, 1), ((1, ((0, 1), TABLE + TABLE[:1])),), ((1, 1), (1, 1)))], many=2)
        self.check_holds(((0, 1), ((1, ((0, 1), TABLE + TABLE[:1])),), ((1, 1), (1, 1))), many=3)

    def test_draws_that_are_none(self):
        for draws in ((), (FIRST, SECOND), ((1,), (1,)), ((1, FIRST, 1), (1, SECOND, 1)), ((1, FIRST), ()),
                      ((FIRST, 1), (SECOND, 1)), (1, FIRST), ((1, FIRST), (1, SECOND), ())):
            self.check_none_holds([with_part(PAPER, (1,), draws)])
        for weight in (0, -1, -GREAT):
            self.check_none_holds([with_part(PAPER, (1,), ((1, FIRST), (1, SECOND), (weight, FIRST))),
                                   with_part(PAPER, (1,), ((weight, FIRST), (weight, SECOND)))])

    def test_tellings_of_other_sizes(self):
        for telling in (((0,), ((3, 5),)), ((0, 0, 0), ((3, 5),)), ((0, 0), ((3,),)), ((0, 0), ((3, 5, 5),)),
                        ((0, 1), ((3, 5),)), ((0, 0), ()), ((0, -1), ((3, 5),)), ((0, 0), ((3, 100),)), ((0, 0),)):
            self.check_none_holds([with_part(PAPER, (1, 0, 1), telling)])
            self.check_none_holds([with_part(PAPER, (1,), PAPER[1] + ((1, telling),))])

    def test_parts_missing_or_too_many(self):
        self.check_none_holds([(), PAPER[:1], PAPER[:2], PAPER[1:], PAPER + ((),), PAPER * 2, PAPER[::-1], (PAPER,)])

    def test_of_other_kinds(self):
        self.check_none_holds(of_other_kinds(PAPER))
        table, paper = fair_of_rows(3, 2, 2, (1, 3))
        self.check_holds(paper, table, 2)
        self.check_none_holds(of_other_kinds(paper), table, 2)
        self.check_none_holds(of_other_kinds(((0, 1), ((1, one_word(((0, 1),))),), ((1, 0),))), ((0, 1),))

    def test_of_anything(self):
        for many in (1, 12):
            self.check_none_holds(odd_things(), many=many)
            self.check_none_holds(odd_things(), ((0,),), many)
            self.check_none_holds(odd_things(), ((0,) * 12,) * 6, many)
        ways = [(), (0,), (0, 0), (1,), (1, 0), (1, 0, 0), (1, 1, 1), (1, 1, 1, 0), (1, 1, 1, 1, 0), (2,), (2, 1),
                (2, 1, 1)]
        for thing in [nested(1, 25), nested_dict(1, 25), nested((1, 1), 24, list), nested(PAPER, 24), "1", None]:
            self.check_none_holds([with_part(PAPER, way, thing) for way in ways])
        self.check_none_holds([with_part(PAPER, (2,), ((0, 1) * 1200,) * 2)])
        self.check_none_holds([with_part(PAPER, (1,), PAPER[1][:1] * 500)])

    def test_no_lesser_share_by_any_draws(self):
        # Whatever paper is let by, its value is the one that is told.
        chance = Random(193)
        tables = [a_table(chance, 2, 2, 2) for _ in range(4)] + [((0,), (1,), (2,))]
        for table in tables:
            value = fair_words(table, 1)[0]
            tellings = [((0,) * len(table), (row,)) for row in itertools.product((0, 1, 2), repeat=len(table[0]))]
            for _ in range(150):
                draws = tuple((chance.randint(1, 2), chance.choice(tellings)) for _ in range(chance.randint(1, 3)))
                weights = a_table(chance, len(table), len(table[0]), 2)
                for other in ((0, 1), (1, 1), (1, 2), (1, 3), (2, 3), (3, 4)):
                    if fair_words_holds(table, 1, (other, draws, weights)):
                        self.assertEqual(other, value)


if __name__ == "__main__":
    unittest.main()
