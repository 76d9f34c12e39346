"""[16] Determinants, and what stands by p."""

import itertools
import unittest
from fractions import Fraction
from random import Random

from tellfew.determinants import determinant, stands
from tests.things import PRIMES, check_false, check_same, check_true

GREAT = 10 ** 6


def by_orders(part):
    """The determinant by its meaning: the sum over all orders of the columns."""
    total = 0
    for order in itertools.permutations(range(len(part))):
        turned = sum(order[i] > order[k] for i in range(len(part)) for k in range(i, len(part)))
        product = -1 if turned % 2 else 1
        for i, j in enumerate(order):
            product *= part[i][j]
        total += product
    return total


def by_fractions(part):
    """The determinant by sums of rows, in fractions."""
    rows = [[Fraction(number) for number in row] for row in part]
    product = Fraction(1)
    for k in range(len(rows)):
        at = next((i for i in range(k, len(rows)) if rows[i][k]), None)
        if at is None:
            return 0
        if at != k:
            rows[k], rows[at] = rows[at], rows[k]
            product = -product
        product *= rows[k][k]
        for i in range(k + 1, len(rows)):
            times = rows[i][k] / rows[k][k]
            rows[i] = [one - times * other for one, other in zip(rows[i], rows[k])]
    return int(product)


def some_part(chance, many, most):
    return tuple(tuple(chance.randint(-most, most) for _ in range(many)) for _ in range(many))


def spanned(numbers):
    """The part with these numbers from its first to its last place, else noughts."""
    return tuple(tuple(number if i == j else 0 for j in range(len(numbers))) for i, number in enumerate(numbers))


class Determinant(unittest.TestCase):

    def test_of_none(self):
        check_same(self, determinant(()), 1)

    def test_small_ones(self):
        check_same(self, determinant(((7,),)), 7)
        check_same(self, determinant(((-7,),)), -7)
        check_same(self, determinant(((0,),)), 0)
        check_same(self, determinant(((1, 2), (3, 4))), -2)
        check_same(self, determinant(((0, 1), (1, 0))), -1)
        check_same(self, determinant(((2, 0, 1), (1, 3, 2), (1, 1, 1))), 0)
        check_same(self, determinant(((0, 2, 3), (4, 0, 6), (7, 8, 0))), 180)
        check_same(self, determinant(((0, 0, 1), (0, 1, 0), (1, 0, 0))), -1)
        check_same(self, determinant(((0, 1, 0), (0, 0, 1), (1, 0, 0))), 1)

    def test_noughts_where_a_row_is_taken(self):
        check_same(self, determinant(((1, 1, 1), (1, 1, 2), (1, 2, 1))), -1)
        check_same(self, determinant(((1, 2, 3), (2, 4, 7), (3, 6, 1))), 0)
        check_same(self, determinant(((0, 0), (0, 5))), 0)
        check_same(self, determinant(((0, 5), (0, 7))), 0)
        check_same(self, determinant(((5, 7), (0, 0))), 0)

    def test_by_its_meaning(self):
        chance = Random(101)
        for _ in range(120):
            part = some_part(chance, chance.randint(0, 5), chance.choice((1, 2, 9, GREAT)))
            check_same(self, determinant(part), by_orders(part))

    def test_of_all_small_ones(self):
        for numbers in itertools.product((-1, 0, 1), repeat=9):
            part = (numbers[:3], numbers[3:6], numbers[6:])
            self.assertEqual(determinant(part), by_orders(part))

    def test_twelve_rows(self):
        chance = Random(102)
        for many in range(6, 13):
            for most in (1, 3, GREAT):
                part = some_part(chance, many, most)
                check_same(self, determinant(part), by_fractions(part))

    def test_great_numbers(self):
        check_same(self, determinant(spanned((GREAT,) * 12)), 10 ** 72)
        check_same(self, determinant(spanned((-GREAT,) * 11)), -(10 ** 66))
        check_same(self, determinant(((GREAT,) * 12,) * 12), 0)
        part = tuple(tuple(GREAT if i <= j else -GREAT for j in range(12)) for i in range(12))
        check_same(self, determinant(part), 2 ** 11 * 10 ** 72)

    def test_it_is_turned_about_and_rows_are_changed_over(self):
        chance = Random(103)
        for _ in range(20):
            part = some_part(chance, chance.randint(2, 12), 9)
            check_same(self, determinant(tuple(zip(*part))), determinant(part))
            check_same(self, determinant((part[1], part[0]) + part[2:]), -determinant(part))
            check_same(self, determinant(part[:-1] + (part[0],)), 0)


class Stands(unittest.TestCase):

    def test_of_none(self):
        for p in (0,) + PRIMES:
            check_true(self, stands((), p))

    def test_by_nought(self):
        check_true(self, stands(((1, 2), (3, 4)), 0))
        check_true(self, stands(((-1,),), 0))
        check_true(self, stands(((97,),), 0))
        check_false(self, stands(((0,),), 0))
        check_false(self, stands(((1, 2), (2, 4)), 0))

    def test_by_primes(self):
        for p in PRIMES:
            for number in (1, -1, p - 1, p + 1, -p - 1, 2 * p + 1):
                check_true(self, stands(((number,),), p))
            for number in (0, p, -p, 2 * p, p * p, -3 * p):
                check_false(self, stands(((number,),), p))
                check_false(self, stands(((number, 5), (0, 7)), p))

    def test_what_stands_by_nought_perhaps_stands_by_no_prime(self):
        part = ((2, 0), (0, 3))
        self.assertEqual([p for p in (0,) + PRIMES if stands(part, p)], [0] + list(PRIMES[2:]))

    def test_by_its_meaning(self):
        chance = Random(104)
        for _ in range(60):
            part = some_part(chance, chance.randint(1, 4), 9)
            check_same(self, stands(part, 0), by_orders(part) != 0)
            for p in PRIMES:
                check_same(self, stands(part, p), by_orders(part) % p != 0)

    def test_twelve_rows(self):
        chance = Random(105)
        part = some_part(chance, 12, GREAT)
        for p in PRIMES:
            check_same(self, stands(part, p), by_fractions(part) % p != 0)
            check_true(self, stands(spanned((1,) * 11 + (p + 1,)), p))
            check_false(self, stands(spanned((1,) * 11 + (p,)), p))
        check_true(self, stands(spanned((GREAT,) * 12), 0))
        check_false(self, stands(spanned((GREAT,) * 11 + (0,)), 0))
        self.assertEqual([p for p in PRIMES if not stands(spanned((GREAT,) * 12), p)], [2, 5])


if __name__ == "__main__":
    unittest.main()
