"""[20] Games: their fair value, and papers of it."""

import itertools
import unittest
from fractions import Fraction
from random import Random

from tellfew.gamechecks import fair_holds
from tellfew.games import fair
from tests.things import (a_table, check_false, check_none_of, check_same, check_true, nested, nested_dict, odd_things,
                          of_other_kinds, with_part)

GREAT = 10 ** 6
# Asked is one of two rows as often as the other one, drawn likewise.
PENNIES = ((0, 1), (1, 0))
PENNIES_PAPER = ((1, 2), (1, 1), (1, 1))
# Its value is 12 of 7.
GAME = ((0, 3, 2), (4, 1, 5))
GAME_PAPER = ((2, 1), (1, 1), (1, 2, 0))


def losses(game, drawn):
    """What each row loses at the mean by these shares of the columns."""
    return [Fraction(sum(number * share for number, share in zip(row, drawn)), sum(drawn)) for row in game]


def value_of_two_rows(game):
    """The value of a game of at most two rows, by the places at which the lines of two columns meet."""
    top, bottom = game[0], game[-1]
    shares = {Fraction(0), Fraction(1)}
    for a, b in zip(top, bottom):
        for c, d in zip(top, bottom):
            if a - b != c - d:
                share = Fraction(d - b, a - b - c + d)
                shares |= {share} if 0 <= share <= 1 else set()
    return max(min(share * a + (1 - share) * b for a, b in zip(top, bottom)) for share in shares)


class Fair(unittest.TestCase):

    def check_fair(self, game, value=None):
        """All that [20] says of a paper, gone through here; its value."""
        paper = fair(game)
        self.assertIs(type(paper), tuple)
        (top, bottom), asked, drawn = paper
        self.assertEqual((type(paper[0]), type(top), type(bottom)), (tuple, int, int))
        self.assertGreaterEqual(bottom, 1)
        found = Fraction(top, bottom)
        self.assertEqual((found.numerator, found.denominator), (top, bottom))
        for shares, count in ((asked, len(game)), (drawn, len(game[0]))):
            self.assertIs(type(shares), tuple)
            self.assertEqual(len(shares), count)
            self.assertTrue(all(type(share) is int and share >= 0 for share in shares))
            self.assertGreater(sum(shares), 0)
        self.assertLessEqual(max(losses(game, drawn)), found)
        self.assertGreaterEqual(min(losses(tuple(zip(*game)), asked)), found)
        check_true(self, fair_holds(game, paper))
        if value is not None:
            self.assertEqual(found, value)
        return found

    def test_small_ones(self):
        self.check_fair(PENNIES, Fraction(1, 2))
        self.check_fair(GAME, 2)
        self.check_fair(((0, 2), (1, 0)), Fraction(2, 3))
        self.check_fair(((3, 0), (0, 5)), Fraction(15, 8))
        self.check_fair(((0, 2, 1), (1, 0, 2), (2, 1, 0)), 1)
        self.check_fair(((1, 0, 0), (0, 1, 0), (0, 0, 1)), Fraction(1, 3))

    def test_one_row_and_one_column(self):
        self.check_fair(((7,),), 7)
        self.check_fair(((0,),), 0)
        self.check_fair(((GREAT,),), GREAT)
        self.check_fair(((5, 2, 9, 2),), 2)
        self.check_fair(((5,), (2,), (9,), (9,)), 9)
        self.check_fair((tuple(range(8, 0, -1)),), 1)
        self.check_fair(tuple((k,) for k in range(8)), 7)

    def test_all_numbers_alike(self):
        for number in (0, 1, 7, GREAT):
            for m, n in ((1, 1), (1, 8), (8, 1), (3, 2), (8, 8)):
                self.check_fair(((number,) * n,) * m, number)

    def test_one_that_both_would_choose(self):
        self.check_fair(((4, 6, 5), (3, 1, 9), (2, 0, 8)), 4)
        self.check_fair(((9, 1, 3), (8, 7, 9), (0, 2, 8)), 7)
        self.check_fair(((0, 0), (0, 1)), 0)
        self.check_fair(((1, 1), (0, 1)), 1)

    def test_a_row_or_a_column_twice(self):
        chance = Random(151)
        for _ in range(30):
            game = a_table(chance, chance.randint(1, 5), chance.randint(1, 5), chance.choice((2, 9, GREAT)))
            value = self.check_fair(game)
            self.check_fair(game + game, value)
            self.check_fair(game + (game[0],), value)
            self.check_fair(tuple(row + row for row in game), value)
            self.check_fair(tuple(row[:1] + row for row in game), value)

    def test_rows_and_columns_changed_over(self):
        chance = Random(152)
        for _ in range(30):
            game = a_table(chance, chance.randint(1, 6), chance.randint(1, 6), chance.choice((2, 9, GREAT)))
            value = self.check_fair(game)
            self.check_fair(game[::-1], value)
            self.check_fair(tuple(row[::-1] for row in game), value)
            self.check_fair(tuple(tuple(3 * number + 5 for number in row) for row in game), 3 * value + 5)
            # Who asked draws now, and loses what is left of 10 ** 6.
            self.check_fair(tuple(zip(*(tuple(GREAT - number for number in row) for row in game))), GREAT - value)

    def test_two_rows_by_their_meaning(self):
        chance = Random(153)
        for _ in range(120):
            game = a_table(chance, chance.randint(1, 2), chance.randint(1, 8), chance.choice((2, 4, 20, GREAT)))
            self.check_fair(game, value_of_two_rows(game))

    def test_all_small_games(self):
        for numbers in itertools.product((0, 1), repeat=9):
            self.check_fair((numbers[:3], numbers[3:6], numbers[6:]))
        for numbers in itertools.product((0, 1, 2), repeat=6):
            game = (numbers[:3], numbers[3:])
            self.check_fair(game, value_of_two_rows(game))
            self.check_fair(tuple(zip(*game)))

    def test_eight_rows_and_eight_columns(self):
        chance = Random(154)
        for most in (1, 2, 9, GREAT):
            for _ in range(15):
                self.check_fair(a_table(chance, 8, 8, most + 1))
        self.check_fair(tuple(tuple(GREAT if i == j else 0 for j in range(8)) for i in range(8)), Fraction(GREAT, 8))
        self.check_fair(tuple(tuple(int(i != j) for j in range(8)) for i in range(8)), Fraction(7, 8))
        self.check_fair(tuple(tuple(int(i >= j) for j in range(8)) for i in range(8)), 1)
        self.check_fair(tuple(tuple(GREAT - (i - j) % 8 for j in range(8)) for i in range(8)),
                        GREAT - Fraction(7, 2))
        self.check_fair(tuple(tuple((GREAT >> i + j) for j in range(8)) for i in range(8)), GREAT >> 7)
        self.check_fair(tuple(tuple(GREAT if i == j else k for j, k in enumerate(range(i, i + 8))) for i in range(8)))

    def test_games_where_many_columns_reach_the_bound_at_once(self):
        chance = Random(155)
        for _ in range(40):
            game = a_table(chance, 8, 8, 2)
            self.check_fair(tuple(tuple(number * GREAT for number in row) for row in game))
            self.check_fair(game[:4] + game[:4])


class FairHolds(unittest.TestCase):

    def check_none_holds(self, things, game=GAME):
        check_none_of(self, lambda thing: fair_holds(game, thing), things)

    def test_papers_by_another_hand(self):
        check_true(self, fair_holds(PENNIES, PENNIES_PAPER))
        check_true(self, fair_holds(PENNIES, ((1, 2), (7, 7), (10 ** 39, 10 ** 39))))
        check_true(self, fair_holds(GAME, GAME_PAPER))
        check_true(self, fair_holds(GAME, ((2, 1), (10 ** 39, 10 ** 39), (5, 10, 0))))
        # Of a game whose numbers are alike every shares are fair.
        check_true(self, fair_holds(((3, 3), (3, 3)), ((3, 1), (0, 1), (10 ** 39, 1))))
        check_true(self, fair_holds(((0, 0), (0, 0)), ((0, 1), (0, 1), (1, 0))))
        check_true(self, fair_holds(((0, 0), (1, 0)), ((0, 1), (0, 1), (0, 1))))
        check_true(self, fair_holds(((0, 0), (1, 0)), ((0, 1), (5, 3), (0, 1))))

    def test_shares_that_are_not_fair(self):
        for asked, drawn in (((1, 2), (1, 1)), ((1, 1), (1, 2)), ((0, 1), (1, 1)), ((1, 1), (1, 0)),
                             ((10 ** 38, 10 ** 38 + 1), (1, 1)), ((1, 1), (10 ** 38 + 1, 10 ** 38))):
            self.check_none_holds([((1, 2), asked, drawn)], PENNIES)
        self.check_none_holds([((2, 1), (1, 1), (1, 2, 1)), ((2, 1), (1, 1), (2, 1, 0)), ((2, 1), (2, 1), (1, 2, 0)),
                               ((2, 1), (1, 2), (1, 2, 0)), ((2, 1), (1, 1), (0, 0, 1)), ((2, 1), (1, 1), (0, 1, 0))])

    def test_rows_are_asked_and_columns_are_drawn(self):
        game = ((0, 1), (2, 3))
        check_true(self, fair_holds(game, ((2, 1), (0, 1), (1, 0))))
        self.check_none_holds([((2, 1), (1, 0), (0, 1)), ((1, 1), (1, 0), (0, 1)), ((2, 1), (1, 0), (1, 0)),
                               ((2, 1), (0, 1), (0, 1)), ((1, 1), (0, 1), (1, 0)), ((3, 1), (0, 1), (0, 1))], game)

    def test_a_value_a_little_too_great_or_too_small(self):
        great = 10 ** 39
        for value in ((great + 1, great), (great - 1, great)):
            self.check_none_holds([(value, (0, 1), (1, 0))], ((0, 1), (1, 2)))
        check_true(self, fair_holds(((0, 1), (1, 2)), ((1, 1), (0, 1), (1, 0))))
        for value in ((1, 1), (3, 1), (great * 2 + 1, great), (great * 2 - 1, great), (-2, 1), (0, 1)):
            self.check_none_holds([(value,) + GAME_PAPER[1:]])
        chance = Random(161)
        for _ in range(10):
            game = a_table(chance, 8, 8, GREAT)
            value, asked, drawn = fair(game)
            for more in (Fraction(1, great), -Fraction(1, great)):
                other = Fraction(*value) + more
                self.check_none_holds([((other.numerator, other.denominator), asked, drawn)], game)

    def test_the_value_is_the_same_whichever_paper(self):
        chance = Random(162)
        for _ in range(60):
            game = a_table(chance, 2, 2, 3)
            value = fair(game)[0]
            for top, bottom in ((0, 1), (1, 1), (2, 1), (1, 2), (3, 2), (2, 3), (4, 3)):
                for asked in itertools.product(range(4), repeat=2):
                    for drawn in itertools.product(range(4), repeat=2):
                        if fair_holds(game, ((top, bottom), asked, drawn)):
                            self.assertEqual((top, bottom), value)

    def test_a_value_that_is_no_fraction_in_lowest_terms(self):
        check_true(self, fair_holds(((2, 2),), ((2, 1), (1,), (1, 1))))
        for value in ((4, 2), (-2, -1), (2, 0), (0, 0), (1, 0), (2, -1), (2,), (2, 1, 1), (), 2, (20, 10)):
            self.check_none_holds([(value, (1,), (1, 1))], ((2, 2),))
        for value in ((2, 4), (-1, -2), (1, -2), (-1, 2), (0, 2), (10 ** 39, 2 * 10 ** 39), (1, 0), "1/2"):
            self.check_none_holds([(value, (1, 1), (1, 1))], PENNIES)
        for value in ((0, 2), (0, -1), (0, 0), (0, 10 ** 39)):
            self.check_none_holds([(value, (1,), (1,))], ((0,),))
        check_true(self, fair_holds(((0,),), ((0, 1), (1,), (1,))))

    def test_numbers_below_nought_and_all_noughts(self):
        self.check_none_holds([((1, 2), (0, 0), (1, 1)), ((1, 2), (1, 1), (0, 0)), ((1, 2), (-1, -1), (1, 1)),
                               ((1, 2), (1, 1), (-1, -1)), ((1, 2), (0, 0), (0, 0))], PENNIES)
        # With the number below 0 all sums would do.
        self.check_none_holds([((1, 1), (1,), (2, -1)), ((1, 1), (1,), (-1, 2))], ((1, 1),))
        self.check_none_holds([((1, 1), (2, -1), (1,)), ((1, 1), (-1, 2), (1,))], ((1,), (1,)))
        self.check_none_holds([((0, 1), (0,), (1,)), ((0, 1), (1,), (0,)), ((0, 1), (-1,), (1,))], ((0,),))

    def test_too_few_or_too_many_numbers(self):
        self.check_none_holds([((1, 2), asked, (1, 1)) for asked in ((), (1,), (1, 1, 0), (1, 1, 1, 1))], PENNIES)
        self.check_none_holds([((1, 2), (1, 1), drawn) for drawn in ((), (1,), (1, 1, 0), (1, 1, 1, 1))], PENNIES)
        self.check_none_holds([((2, 1), (1, 1, 0), (1, 2, 0)), ((2, 1), (1, 1), (1, 2)), ((2, 1), (1, 2, 0), (1, 1))])

    def test_parts_missing_or_too_many(self):
        self.check_none_holds([(), GAME_PAPER[:1], GAME_PAPER[:2], GAME_PAPER[1:], GAME_PAPER + ((),), GAME_PAPER * 2,
                               GAME_PAPER[::-1], (GAME_PAPER,)])

    def test_of_other_kinds(self):
        self.check_none_holds(of_other_kinds(GAME_PAPER))
        self.check_none_holds(of_other_kinds(PENNIES_PAPER), PENNIES)
        self.check_none_holds(of_other_kinds(((0, 1), (1, 0), (1, 0))), ((0, 0), (0, 1)))
        self.check_none_holds(of_other_kinds(fair(((5,),))), ((5,),))

    def test_of_anything(self):
        self.check_none_holds(odd_things())
        self.check_none_holds(odd_things(), ((0,),))
        for thing in [nested(1, 27), nested_dict(1, 27), nested((1, 1), 26, list), nested(GAME_PAPER, 26), "11", None]:
            self.check_none_holds([with_part(GAME_PAPER, way, thing) for way in (
                (), (0,), (1,), (2,), (0, 0), (0, 1), (1, 0), (2, 2))])
        self.check_none_holds([((2, 1), (1,) * 2400, (1, 2, 0)), ((2, 1), (1, 1), (1,) * 4900)])

    def test_a_paper_of_another_game(self):
        paper = fair(((3, 0), (0, 5)))
        self.check_none_holds([paper], PENNIES)
        self.check_none_holds([paper], ((3, 0), (0, 6)))
        self.check_none_holds([paper], ((3, 1), (0, 5)))
        check_false(self, fair_holds(GAME, PENNIES_PAPER))
        check_same(self, fair_holds(((3, 0), (0, 5)), paper), True)


if __name__ == "__main__":
    unittest.main()
