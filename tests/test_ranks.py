"""[17] Papers of the rank by p."""

import itertools
import unittest
from fractions import Fraction
from random import Random

from tellfew.rankchecks import ranked_holds
from tellfew.ranks import ranked
from tellfew.tables import turned
from tellfew.telling import ends_of, told
from tests.things import (PRIMES, a_table, a_tree, check_false, check_none_of, check_same, check_true, nested,
                          nested_dict, odd_things, of_other_kinds, some_tables, with_part)

ALL_P = (0,) + PRIMES
SOME_P = (0, 2, 3, 7, 97)

# By 0 its rank is 2: the third row is the sum of the first two, the last one is nought.
TABLE = ((1, 2, 0), (0, 3, 1), (1, 5, 1), (0, 0, 0))
PAPER = ((0, 1), (0, 1), ((3, (3, 0)), (3, (0, 3)), (3, (3, 3)), (3, (0, 0))))


def numbers_by(p, rows):
    """The rows in numbers that can be divided: fractions, by a prime rests."""
    return [[Fraction(number) if p == 0 else number % p for number in row] for row in rows]


def divided(one, other, p):
    return one / other if p == 0 else one * pow(int(other), p - 2, p) % p


def rank_by_its_meaning(table, p):
    """The rank by clearing the rows below, in fractions or by rests."""
    rows = numbers_by(p, table)
    rank = 0
    for j in range(len(table[0])):
        at = next((i for i in range(rank, len(rows)) if rows[i][j] != 0), None)
        if at is None:
            continue
        rows[rank], rows[at] = rows[at], rows[rank]
        for i in range(rank + 1, len(rows)):
            times = divided(rows[i][j], rows[rank][j], p)
            rows[i] = [one - times * other for one, other in zip(rows[i], rows[rank])]
            rows[i] = rows[i] if p == 0 else [number % p for number in rows[i]]
        rank += 1
    return rank


def nought(number, p):
    return number == 0 if p == 0 else number % p == 0


def part_stands(table, rows, cols, p):
    """Whether a part of as many rows as columns stands: just where its rank is how many these are."""
    return len(rows) == 0 or rank_by_its_meaning([[table[i][j] for j in cols] for i in rows], p) == len(rows)


def solved(part, answers, p):
    """How often each row of the standing part is taken for the answers, in fractions or rests."""
    many = len(part)
    rows = numbers_by(p, [[part[k][j] for k in range(many)] + [answers[j]] for j in range(many)])
    for k in range(many):
        at = next(i for i in range(k, many) if rows[i][k] != 0)
        rows[k], rows[at] = rows[at], rows[k]
        rows[k] = [divided(number, rows[k][k], p) for number in rows[k]]
        for i in range(many):
            if i != k:
                times = rows[i][k]
                rows[i] = [one - times * other for one, other in zip(rows[i], rows[k])]
                rows[i] = rows[i] if p == 0 else [number % p for number in rows[i]]
    return [row[many] for row in rows]


def by_another_hand(chance, table, p):
    """A paper of other rows and columns, sums that are each some times as great, by a prime with multiples more."""
    rank = rank_by_its_meaning(table, p)
    parts = [(rows, cols) for rows in itertools.combinations(range(len(table)), rank)
             for cols in itertools.combinations(range(len(table[0])), rank) if part_stands(table, rows, cols, p)]
    rows, cols = chance.choice(parts)
    part = [[table[i][j] for j in cols] for i in rows]
    sums = []
    for row in table:
        times = chance.choice((1, -1, 2, 3, -7, 10 ** 20))
        some = solved(part, [row[j] for j in cols], p)
        if p == 0:
            d = times
            for number in some:
                d *= number.denominator
            sums.append((d, tuple(int(d * number) for number in some)))
            continue
        d = 1 if times % p == 0 else times
        sums.append((d + p * chance.randint(-3, 3),
                     tuple(d * number + p * chance.randint(-9, 9) * times for number in some)))
    return rows, cols, tuple(sums)


class PaperClauses(unittest.TestCase):

    def check_paper(self, table, p, paper):
        """All that [17] says of a paper, gone through here; its rank."""
        self.assertIs(type(paper), tuple)
        rows, cols, sums = paper
        for numbers, count in ((rows, len(table)), (cols, len(table[0]))):
            self.assertIs(type(numbers), tuple)
            self.assertTrue(all(type(k) is int and 0 <= k < count for k in numbers))
            self.assertEqual(list(numbers), sorted(set(numbers)))
        self.assertEqual(len(rows), len(cols))
        self.assertTrue(part_stands(table, rows, cols, p))
        self.assertIs(type(sums), tuple)
        self.assertEqual(len(sums), len(table))
        for row, (d, some) in zip(table, sums):
            self.assertIs(type(some), tuple)
            self.assertEqual([type(number) for number in (d,) + some], [int] * (1 + len(rows)))
            self.assertTrue(all(abs(number) < 10 ** 4000 for number in (d,) + some))
            self.assertFalse(nought(d, p))
            for j, answer in enumerate(row):
                made = sum(times * table[i][j] for times, i in zip(some, rows))
                self.assertTrue(nought(d * answer - made, p))
        return len(rows)

    def check_rank(self, table, p, rank=None):
        paper = ranked(table, p)
        self.assertEqual(self.check_paper(table, p, paper), rank_by_its_meaning(table, p))
        if rank is not None:
            self.assertEqual(len(paper[0]), rank)
        check_true(self, ranked_holds(table, p, paper))


class Ranked(PaperClauses):

    def test_small_ones(self):
        self.check_rank(TABLE, 0, 2)
        self.check_rank(((1,),), 0, 1)
        self.check_rank(((0,),), 0, 0)
        self.check_rank(((1, 2), (2, 4)), 0, 1)
        self.check_rank(((1, 2), (2, 5)), 0, 2)
        self.check_rank(((0, 1), (1, 0)), 0, 2)
        self.check_rank(((0, 0, 5), (0, 0, 7), (0, 3, 0)), 0, 2)
        self.check_rank(((99,), (1,)), 0, 1)
        self.check_rank(((0, 99, 1),), 0, 1)

    def test_by_each_p(self):
        chance = Random(111)
        for p in ALL_P:
            for answers in (2, 4, 100):
                table = a_table(chance, chance.randint(1, 6), chance.randint(1, 6), answers)
                self.check_rank(table, p)

    def test_tables_of_few_ranks(self):
        chance = Random(112)
        for p in SOME_P:
            for rank in range(4):
                left, right = a_table(chance, 6, rank, 4), a_table(chance, rank, 5, 4)
                table = tuple(tuple(sum(left[i][k] * right[k][j] for k in range(rank)) for j in range(5))
                              for i in range(6))
                self.check_rank(table, p)
                self.assertLessEqual(len(ranked(table, p)[0]), rank)

    def test_all_of_three_rows_and_columns(self):
        for answers in itertools.product((0, 1), repeat=9):
            table = (answers[:3], answers[3:6], answers[6:])
            for p in (0, 2):
                self.check_rank(table, p)

    def test_noughts(self):
        for p in ALL_P:
            for m, n in ((1, 1), (3, 2), (12, 12)):
                table = ((0,) * n,) * m
                self.check_rank(table, p, 0)
                self.assertEqual(ranked(table, p)[:2], ((), ()))
                self.assertTrue(all(some == () for _, some in ranked(table, p)[2]))

    def test_multiples_alone(self):
        for p in PRIMES:
            most = 99 // p
            table = tuple(tuple(p * ((i + j) % (most + 1)) for j in range(4)) for i in range(3))
            self.check_rank(table, p, 0)
            self.assertEqual(ranked(table, p)[:2], ((), ()))
            self.assertGreater(len(ranked(table, 0)[0]), 0)

    def test_a_prime_that_divides_a_determinant(self):
        self.check_rank(((2, 0), (0, 3)), 0, 2)
        self.check_rank(((2, 0), (0, 3)), 2, 1)
        self.check_rank(((2, 0), (0, 3)), 3, 1)
        self.check_rank(((2, 0), (0, 3)), 5, 2)
        self.check_rank(((1, 1, 0), (0, 1, 1), (1, 0, 1)), 0, 3)
        self.check_rank(((1, 1, 0), (0, 1, 1), (1, 0, 1)), 2, 2)
        self.check_rank(((98, 1), (1, 97)), 97, 2)
        self.check_rank(((98, 1), (97, 97)), 97, 1)

    def test_no_part_of_more_rows_stands(self):
        chance = Random(113)
        for p in SOME_P:
            for _ in range(6):
                table = a_table(chance, chance.randint(1, 4), chance.randint(1, 4), 3)
                rank = len(ranked(table, p)[0])
                for many in range(rank + 1, min(len(table), len(table[0])) + 1):
                    for rows in itertools.combinations(range(len(table)), many):
                        for cols in itertools.combinations(range(len(table[0])), many):
                            self.assertFalse(part_stands(table, rows, cols, p))

    def test_twelve_rows_and_columns_with_answers_to_99(self):
        chance = Random(114)
        for p in SOME_P:
            self.check_rank(a_table(chance, 12, 12, 100), p)
            self.check_rank(((99,) * 12,) * 12, p)
        self.check_rank(tuple(tuple(99 if i == j else 0 for j in range(12)) for i in range(12)), 0, 12)
        self.check_rank(tuple(tuple(99 if i >= j else 98 for j in range(12)) for i in range(12)), 0, 12)
        self.check_rank(tuple(tuple(99 if i == j else 0 for j in range(12)) for i in range(12)), 3, 0)

    def test_sixty_four_rows(self):
        table = tuple((k % 2, k // 7, k % 5, 1) for k in range(64))
        self.check_rank(table, 0)
        self.check_rank(turned(table), 3)

    def test_turned_about_rows_twice_from_behind(self):
        chance = Random(115)
        for p in SOME_P:
            for table in some_tables(116, 8, most=5):
                rank = len(ranked(table, p)[0])
                rows = list(table) + [chance.choice(table) for _ in range(2)]
                chance.shuffle(rows)
                for other in (turned(table), table[::-1], tuple(row[::-1] for row in table), table + table, tuple(rows),
                              tuple(row + row for row in table), turned(table)[::-1]):
                    self.assertEqual(len(ranked(other, p)[0]), rank)

    def test_by_a_prime_no_more_rows_than_by_nought(self):
        chance = Random(117)
        for _ in range(12):
            table = a_table(chance, chance.randint(1, 5), chance.randint(1, 5), 100)
            for p in PRIMES:
                self.assertLessEqual(len(ranked(table, p)[0]), len(ranked(table, 0)[0]))

    def test_a_tree_has_no_fewer_ends_with_other_answers(self):
        chance = Random(118)
        for _ in range(25):
            m, n = chance.randint(1, 6), chance.randint(1, 6)
            tree = a_tree(chance, m, n, 4, answers=7)
            table = tuple(tuple(told(tree, i, j)[1] for j in range(n)) for i in range(m))
            for p in (0, 2, 3, 5):
                ends = [answer for _, _, answer in ends_of(tree, m, n) if not nought(answer, p)]
                self.assertLessEqual(len(ranked(table, p)[0]), len(ends))


class RankedHolds(PaperClauses):

    def check_none_holds(self, things, table=TABLE, p=0):
        check_none_of(self, lambda thing: ranked_holds(table, p, thing), things)

    def test_papers_by_another_hand(self):
        check_true(self, ranked_holds(TABLE, 0, PAPER))
        chance = Random(121)
        for p in SOME_P:
            for table in some_tables(122, 12, most=4) + [TABLE, ((0, 0), (0, 0)), ((97, 0), (3, 98))]:
                paper = by_another_hand(chance, table, p)
                self.check_paper(table, p, paper)
                check_true(self, ranked_holds(table, p, paper))

    def test_each_row_has_a_d_of_its_own(self):
        sums = ((1, (1, 0)), (-5, (0, -5)), (10 ** 39, (10 ** 39, 10 ** 39)), (7, (0, 0)))
        check_true(self, ranked_holds(TABLE, 0, ((0, 1), (0, 1), sums)))
        check_true(self, ranked_holds(TABLE, 0, ((0, 1), (0, 2), sums)))
        check_true(self, ranked_holds(TABLE, 0, ((0, 1), (1, 2), sums)))

    def test_other_rows(self):
        sums = ((1, (1, 0)), (1, (-1, 1)), (1, (0, 1)), (1, (0, 0)))
        check_true(self, ranked_holds(TABLE, 0, ((0, 2), (0, 1), sums)))
        check_true(self, ranked_holds(TABLE, 0, ((1, 2), (0, 1), (sums[1], sums[0]) + sums[2:])))
        self.check_none_holds([((0, 2), (0, 1), PAPER[2]), ((1, 2), (0, 1), PAPER[2])])

    def test_by_a_prime_multiples_more_and_numbers_below_nought(self):
        table = ((1, 2), (2, 1), (3, 3))
        # By 3 the rank is 1: all rows are some times the first one.
        check_true(self, ranked_holds(table, 3, ((0,), (0,), ((1, (1,)), (1, (2,)), (1, (0,))))))
        check_true(self, ranked_holds(table, 3, ((0,), (1,), ((4, (-2,)), (-1, (-2,)), (-4, (3 * 10 ** 38,))))))
        check_true(self, ranked_holds(table, 3, ((1,), (1,), ((-1, (1,)), (10, (-8,)), (5, (0,))))))
        self.check_none_holds([((0,), (0,), ((1, (1,)), (1, (2,)), (1, (1,)))), ((2,), (0,), ((1, (1,)),) * 3),
                               ((0,), (0,), ((1, (2,)), (1, (2,)), (1, (0,))))], table, 3)
        # By 0 it is 2, so that the same papers do not hold.
        self.check_none_holds([((0,), (0,), ((1, (1,)), (1, (2,)), (1, (0,))))], table, 0)

    def test_d_that_is_nought(self):
        for at in range(4):
            for some in ((0, 0), PAPER[2][at][1]):
                self.check_none_holds([with_part(PAPER, (2, at), (0, some))])
        for d in (0, 5, -5, 10 ** 30):
            for at in range(4):
                self.check_none_holds([with_part(PAPER, (2, at), (d, (0, 0)))], p=5)
        table = ((0, 0),)
        self.check_none_holds([((), (), ((0, ()),))], table)
        self.check_none_holds([((), (), ((d, ()),)) for d in (0, 7, -7, 49)], table, 7)
        for d in (1, -1, 7, 10 ** 39):
            check_true(self, ranked_holds(table, 0, ((), (), ((d, ()),))))
        for d in (1, -1, 6, 8, -20):
            check_true(self, ranked_holds(table, 7, ((), (), ((d, ()),))))

    def test_each_number_of_the_sums(self):
        for p in (0, 2, 7):
            paper = ranked(TABLE, p)
            for at in range(4):
                for k in range(2):
                    for more in (1, -1):
                        wrong = with_part(paper, (2, at, 1, k), paper[2][at][1][k] + more)
                        check_false(self, ranked_holds(TABLE, p, wrong))
                if p != 2 and at < 3:
                    check_false(self, ranked_holds(TABLE, p, with_part(paper, (2, at, 0), paper[2][at][0] + 1)))

    def test_each_answer_is_looked_at(self):
        # The paper is made for rows of which the last answer is another one.
        for i in range(4):
            for j in range(3):
                table = with_part(TABLE, (i, j), TABLE[i][j] + 4)
                holds = ranked_holds(table, 0, PAPER)
                made = all(3 * answer == sum(k * table[row][col] for k, row in zip(some, (0, 1)))
                           for (_, some), answers in zip(PAPER[2], table) for col, answer in enumerate(answers))
                check_same(self, holds, made)
                check_false(self, holds)

    def test_a_part_that_does_not_stand(self):
        self.check_none_holds([((0, 3), (0, 1), PAPER[2]), ((2, 3), (0, 1), PAPER[2])])
        sums = ((1, (0, 0)),) * 4
        self.check_none_holds([(rows, cols, sums) for rows in itertools.combinations(range(4), 2)
                               for cols in itertools.combinations(range(3), 2)])
        table = ((1, 1), (1, 1))
        self.check_none_holds([((0, 1), (0, 1), ((1, (1, 0)), (1, (0, 1))))], table)
        self.check_none_holds([((0, 1), (0, 1), ((1, (1, 0)), (1, (0, 1))))], ((1, 2), (3, 6)), 0)
        self.check_none_holds([((0, 1), (0, 1), ((1, (1, 0)), (1, (0, 1))))], ((1, 0), (0, 5)), 5)
        check_true(self, ranked_holds(((1, 0), (0, 5)), 3, ((0, 1), (0, 1), ((1, (1, 0)), (1, (0, 1))))))

    def test_a_part_of_too_few_rows(self):
        self.check_none_holds([((0,), (0,), ((1, (1,)), (1, (0,)), (1, (1,)), (1, (0,)))), ((), (), ((1, ()),) * 4)])

    def test_rows_and_columns_that_do_not_rise(self):
        turned_sums = tuple((d, some[::-1]) for d, some in PAPER[2])
        self.check_none_holds([((1, 0), (0, 1), turned_sums), ((0, 1), (1, 0), PAPER[2])])
        self.check_none_holds([((1, 0), (1, 0), turned_sums), ((1, 0), (1, 0), PAPER[2])])
        self.check_none_holds([((0, 0), (0, 1), PAPER[2]), ((0, 1), (1, 1), PAPER[2]), ((0, 0), (0, 0), PAPER[2])])
        self.check_none_holds([((0, 0), (0, 0), ((1, (1, 0)),))], ((1, 2),))

    def test_numbers_of_no_row_or_column(self):
        for number in (4, 5, 10 ** 39):
            self.check_none_holds([((0, number), (0, 1), PAPER[2])])
        for number in (3, 4, 10 ** 39):
            self.check_none_holds([((0, 1), (0, number), PAPER[2])])
        for number in (-1, -3, -4, -10 ** 39):
            self.check_none_holds([((number, 1), (0, 1), PAPER[2]), ((0, 1), (number, 1), PAPER[2])])

    def test_as_many_rows_as_columns(self):
        self.check_none_holds([((0, 1), (0,), PAPER[2]), ((0,), (0, 1), PAPER[2]), ((0, 1), (0, 1, 2), PAPER[2]),
                               ((0, 1, 2), (0, 1), PAPER[2]), ((), (0,), PAPER[2]), ((0,), (), PAPER[2])])

    def test_too_few_or_too_many_sums(self):
        sums = PAPER[2]
        for other in ((), sums[:1], sums[:3], sums + sums[3:], sums + sums):
            self.check_none_holds([PAPER[:2] + (other,)])
        for at in range(4):
            d, some = sums[at]
            for other in ((d,), (some,), (d, some, some), (d, d, some), (some, d), (d, some[:1]), (d, some + (0,)),
                          (d, ()), (), (d, some, ()), ((d, some),)):
                self.check_none_holds([with_part(PAPER, (2, at), other)])

    def test_parts_missing_or_too_many(self):
        self.check_none_holds([(), PAPER[:1], PAPER[:2], PAPER[1:], PAPER + ((),), PAPER[::-1], (PAPER,), PAPER * 2])

    def test_of_other_kinds(self):
        self.check_none_holds(of_other_kinds(PAPER))
        self.check_none_holds(of_other_kinds(ranked(TABLE, 2)), p=2)
        # Truths, though each of them is the number that is due.
        table = ((1, 0), (0, 1))
        check_true(self, ranked_holds(table, 0, ((0, 1), (0, 1), ((1, (1, 0)), (1, (0, 1))))))
        self.check_none_holds(of_other_kinds(((0, 1), (0, 1), ((1, (1, 0)), (1, (0, 1))))), table)
        self.check_none_holds(of_other_kinds(((), (), ((1, ()),))), ((0, 0),))

    def test_of_anything(self):
        for p in (0, 5):
            self.check_none_holds(odd_things(), p=p)
            self.check_none_holds(odd_things(), ((0,),), p)
        for thing in [nested(0, 27), nested_dict(0, 27), nested((0, 1), 26, list), nested(PAPER, 26)]:
            self.check_none_holds([with_part(PAPER, way, thing) for way in (
                (), (0,), (1,), (2,), (0, 0), (1, 1), (2, 0), (2, 0, 0), (2, 0, 1), (2, 0, 1, 0))])

    def test_great_numbers(self):
        great = 10 ** 39
        sums = tuple((d * great, tuple(k * great for k in some)) for d, some in PAPER[2])
        check_true(self, ranked_holds(TABLE, 0, PAPER[:2] + (sums,)))
        self.check_none_holds([PAPER[:2] + (with_part(sums, (0, 1, 0), 3 * great + 1),)])
        table = a_table(Random(123), 12, 12, 100)
        paper = ranked(table, 0)
        self.check_none_holds([with_part(paper, (2, 11, 1, 11), paper[2][11][1][11] + 1),
                               with_part(paper, (2, 0, 0), paper[2][0][0] - 1)], table)

    def test_five_thousand_parts(self):
        self.check_none_holds([PAPER[:2] + (PAPER[2] * 400,), PAPER[:2] + (((3, (3,) * 4900),) + PAPER[2][1:],),
                               (tuple(range(2400)), tuple(range(2400)), PAPER[2])])


if __name__ == "__main__":
    unittest.main()
