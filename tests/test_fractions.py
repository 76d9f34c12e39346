"""[19] Fractions in lowest terms."""

import unittest
from fractions import Fraction
from random import Random

from tellfew.fractions import is_fraction, less, lowest
from tests.things import check_false, check_none_of, check_same, check_true, odd_things, of_other_kinds

GREAT = 10 ** 40 - 1


def in_terms(fraction):
    return fraction.numerator, fraction.denominator


class Lowest(unittest.TestCase):

    def test_small_ones(self):
        check_same(self, lowest(1, 2), (1, 2))
        check_same(self, lowest(2, 4), (1, 2))
        check_same(self, lowest(6, 4), (3, 2))
        check_same(self, lowest(4, 2), (2, 1))
        check_same(self, lowest(7, 7), (1, 1))
        check_same(self, lowest(5, 1), (5, 1))

    def test_either_number_below_nought(self):
        check_same(self, lowest(-2, 4), (-1, 2))
        check_same(self, lowest(2, -4), (-1, 2))
        check_same(self, lowest(-2, -4), (1, 2))
        check_same(self, lowest(-7, 3), (-7, 3))
        check_same(self, lowest(7, -3), (-7, 3))
        check_same(self, lowest(-3, -3), (1, 1))

    def test_the_first_one_nought(self):
        for bottom in (1, 2, -1, -2, GREAT, -GREAT):
            check_same(self, lowest(0, bottom), (0, 1))

    def test_the_second_one_one(self):
        for top in (0, 1, -1, 17, -17, GREAT, -GREAT):
            check_same(self, lowest(top, 1), (top, 1))
            check_same(self, lowest(top, -1), (-top, 1))

    def test_all_small_ones(self):
        for top in range(-30, 31):
            for bottom in list(range(-30, 0)) + list(range(1, 31)):
                told = lowest(top, bottom)
                check_same(self, told, in_terms(Fraction(top, bottom)))
                self.assertGreaterEqual(told[1], 1)
                for number in range(2, 31):
                    self.assertFalse(told[0] % number == 0 and told[1] % number == 0)

    def test_numbers_of_forty_figures(self):
        chance = Random(141)
        check_same(self, lowest(GREAT, GREAT), (1, 1))
        check_same(self, lowest(-GREAT, GREAT), (-1, 1))
        check_same(self, lowest(GREAT, 3), (GREAT // 3, 1))
        check_same(self, lowest(GREAT - 1, GREAT), (GREAT - 1, GREAT))
        for _ in range(200):
            common = chance.randint(1, 10 ** chance.randint(1, 20))
            top, bottom = chance.randint(-10 ** 20, 10 ** 20) * common, chance.randint(1, 10 ** 20) * common
            check_same(self, lowest(top, bottom), in_terms(Fraction(top, bottom)))
            check_same(self, lowest(top, -bottom), in_terms(Fraction(top, -bottom)))

    def test_what_was_told_again_however_great(self):
        told = lowest(3 ** 400, 6 ** 500)
        check_same(self, told, (1, 3 ** 100 * 2 ** 500))
        check_same(self, lowest(*told), told)
        check_same(self, lowest(told[1], told[0]), (told[1], 1))


class Less(unittest.TestCase):

    def check_less(self, one, other):
        check_true(self, less(one, other))
        check_false(self, less(other, one))

    def test_small_ones(self):
        self.check_less((1, 3), (1, 2))
        self.check_less((2, 3), (3, 4))
        self.check_less((0, 1), (1, 100))
        self.check_less((1, 1), (2, 1))
        self.check_less((5, 3), (2, 1))

    def test_either_below_nought(self):
        self.check_less((-1, 2), (1, 2))
        self.check_less((-1, 2), (-1, 3))
        self.check_less((-1, 2), (0, 1))
        self.check_less((-3, 1), (-5, 2))
        self.check_less((-2, 1), (1, 1000))

    def test_the_same_one(self):
        for one in ((0, 1), (1, 2), (-1, 2), (7, 1), (-GREAT, GREAT - 1)):
            check_false(self, less(one, one))
            check_false(self, less(one, tuple(one)))

    def test_near_one_another(self):
        self.check_less((GREAT - 1, GREAT), (1, 1))
        self.check_less((1, GREAT), (1, GREAT - 1))
        self.check_less((GREAT - 2, GREAT - 1), (GREAT - 1, GREAT))
        self.check_less((-GREAT, GREAT - 1), (-1, 1))
        self.check_less((-1, GREAT - 1), (-1, GREAT))
        self.check_less((10 ** 39 + 1, 3), (10 ** 39 + 2, 3))
        # As numbers with a point these two are the same.
        self.check_less((10 ** 20, 10 ** 20 + 1), (10 ** 20 + 1, 10 ** 20 + 2))

    def test_by_their_meaning(self):
        small = sorted({Fraction(top, bottom) for top in range(-6, 7) for bottom in range(1, 6)})
        for one in small:
            for other in small:
                check_same(self, less(in_terms(one), in_terms(other)), one < other)


class IsFraction(unittest.TestCase):

    def test_just_what_is_in_lowest_terms(self):
        for top in range(-12, 13):
            for bottom in range(-12, 13):
                expected = bottom > 0 and in_terms(Fraction(top, bottom)) == (top, bottom)
                check_same(self, is_fraction((top, bottom)), expected)

    def test_of_forty_figures(self):
        check_true(self, is_fraction((GREAT - 1, GREAT)))
        check_true(self, is_fraction((-GREAT, 1)))
        check_none_of(self, is_fraction, [(GREAT, GREAT), (GREAT, 3), (0, GREAT), (1, -GREAT)])

    def test_of_anything(self):
        check_none_of(self, is_fraction, of_other_kinds((1, 2)) + of_other_kinds((0, 1)) + of_other_kinds((1, 1)))
        check_none_of(self, is_fraction, [(), (1,), (1, 2, 3), (1, 2, 1), ((1, 2),), "1/2", [1, 2], {1: 2}])
        check_none_of(self, is_fraction, [thing for thing in odd_things() if thing != (1, 2)])


if __name__ == "__main__":
    unittest.main()
