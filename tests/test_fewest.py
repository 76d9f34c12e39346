"""[10] The fewest signs of a table."""

import itertools
import unittest
from random import Random

from tellfew.errors import TooGreat
from tellfew.fewest import fewest
from tellfew.likes import unlike_cols, unlike_rows
from tellfew.tables import part_of, turned
from tellfew.telling import tells, told
from tellfew.trees import depth_of, is_tree
from tests.things import a_table, check_refused, check_same, check_true


def least_depth(table):
    """The least depth by its meaning: all ways to part the rows or the columns in two, of all that is left."""
    known = {}

    def least(rows, cols):
        if len({table[i][j] for i in rows for j in cols}) == 1:
            return 0
        if (rows, cols) not in known:
            depths = [max(least(t, cols), least(rows - t, cols)) for t in parts(rows)]
            depths += [max(least(rows, t), least(rows, cols - t)) for t in parts(cols)]
            known[rows, cols] = 1 + min(depths)
        return known[rows, cols]

    def parts(numbers):
        for many in range(1, len(numbers)):
            for part in itertools.combinations(sorted(numbers), many):
                yield frozenset(part)

    return least(frozenset(range(len(table))), frozenset(range(len(table[0]))))


def trees_to(m, n, depth, answers):
    """All trees for m rows and n columns of at most that depth."""
    trees = [("end", a) for a in answers]
    for _ in range(depth):
        asked = [("row", signs) for signs in itertools.product((0, 1), repeat=m)]
        asked += [("col", signs) for signs in itertools.product((0, 1), repeat=n)]
        trees = [("end", a) for a in answers] + [
            (who, signs, t, u) for who, signs in asked for t in trees for u in trees]
    return trees


def spread(chance, table, m, n):
    """A table of m rows and n columns, all of them this one's, each at least once."""
    rows = list(range(len(table))) + [chance.randrange(len(table)) for _ in range(m - len(table))]
    cols = list(range(len(table[0]))) + [chance.randrange(len(table[0])) for _ in range(n - len(table[0]))]
    chance.shuffle(rows)
    chance.shuffle(cols)
    return part_of(table, rows, cols)


def the_same(many):
    return tuple(tuple(int(i == j) for j in range(many)) for i in range(many))


def no_less(many):
    return tuple(tuple(int(i >= j) for j in range(many)) for i in range(many))


def all_unlike(m, n):
    return tuple(tuple(i * n + j for j in range(n)) for i in range(m))


class Fewest(unittest.TestCase):

    def check_told(self, table, depth):
        found, tree = fewest(table)
        check_true(self, is_tree(len(table), len(table[0]), tree))
        check_same(self, found, depth)
        check_same(self, depth_of(tree), depth)
        check_true(self, tells(table, tree))
        for i, row in enumerate(table):
            for j, answer in enumerate(row):
                self.assertEqual(told(tree, i, j)[1], answer)

    def test_a_pair_is_told(self):
        self.assertIs(type(fewest(((1,),))), tuple)
        self.assertEqual(len(fewest(((1,),))), 2)

    def test_one_answer(self):
        for table in (((0,),), ((99,),), ((7, 7), (7, 7)), ((5,) * 12,) * 12, ((5,),) * 12, ((5,) * 12,)):
            self.check_told(table, 0)
            check_same(self, fewest(table), (0, ("end", table[0][0])))

    def test_one_row_or_one_column(self):
        self.check_told(((1, 2),), 1)
        self.check_told(((1,), (2,)), 1)
        self.check_told(((1, 2, 3),), 2)
        self.check_told(((1, 2, 3, 4),), 2)
        self.check_told(((1,), (2,), (3,), (4,)), 2)
        self.check_told(((1, 2, 2, 1, 3, 4, 1, 1, 2, 3, 4, 4),), 2)

    def test_well_known_ones(self):
        self.check_told(the_same(2), 2)
        self.check_told(the_same(3), 3)
        self.check_told(the_same(4), 3)
        self.check_told(all_unlike(4, 4), 4)
        self.check_told(all_unlike(2, 4), 3)
        self.check_told(all_unlike(3, 4), 4)
        self.check_told(((0, 0), (0, 1)), 2)
        self.check_told(((0, 1), (1, 0)), 2)
        self.check_told(((0, 0), (1, 2)), 2)
        self.check_told(((0, 1), (0, 2), (3, 3)), 3)

    def test_against_all_trees(self):
        trees = trees_to(2, 2, 2, (0, 1))
        for answers in itertools.product((0, 1), repeat=4):
            table = (answers[:2], answers[2:])
            depth = min(depth_of(tree) for tree in trees
                        if all(told(tree, i, j)[1] == table[i][j] for i in (0, 1) for j in (0, 1)))
            self.check_told(table, depth)
            self.assertEqual(least_depth(table), depth)

    def test_against_all_shallow_trees(self):
        for m, n in ((3, 2), (2, 3)):
            trees = trees_to(m, n, 1, (0, 1))
            for answers in itertools.product((0, 1), repeat=6):
                table = tuple(answers[i * n:i * n + n] for i in range(m))
                depths = [depth_of(tree) for tree in trees
                          if all(told(tree, i, j)[1] == table[i][j] for i in range(m) for j in range(n))]
                found = fewest(table)[0]
                self.assertEqual(min(depths, default=2), min(found, 2))

    def test_the_least_by_its_meaning(self):
        chance = Random(51)
        for _ in range(120):
            table = a_table(chance, chance.randint(1, 4), chance.randint(1, 4), chance.randint(2, 5))
            self.check_told(table, least_depth(table))

    def test_all_of_three_rows_and_columns(self):
        for answers in itertools.product((0, 1), repeat=9):
            table = (answers[:3], answers[3:6], answers[6:])
            self.check_told(table, least_depth(table))

    def test_four_unlike_ones_among_twelve(self):
        chance = Random(52)
        bases = [the_same(4), no_less(4), all_unlike(4, 4), all_unlike(4, 3), all_unlike(1, 4)]
        bases += [a_table(chance, 4, 4, 2) for _ in range(20)] + [a_table(chance, 4, 4, 4) for _ in range(10)]
        for base in bases:
            depth = least_depth(base)
            table = spread(chance, base, 12, 12)
            self.check_told(table, depth)
            self.check_told(turned(table), depth)

    def test_more_than_twelve_rows_of_which_few_are_unlike(self):
        chance = Random(53)
        self.check_told(spread(chance, the_same(4), 64, 1 + 4), 3)

    def test_turned_about(self):
        chance = Random(54)
        for _ in range(40):
            table = a_table(chance, chance.randint(1, 4), chance.randint(1, 4), 3)
            check_same(self, fewest(turned(table))[0], fewest(table)[0])

    def test_with_a_row_twice(self):
        chance = Random(55)
        for _ in range(40):
            table = a_table(chance, chance.randint(1, 4), chance.randint(1, 4), 3)
            depth = fewest(table)[0]
            self.check_told(table + (table[0],), depth)
            self.check_told(table[:1] + table, depth)
            self.check_told(tuple(row + row[:1] for row in table), depth)

    def test_with_a_column_left_out(self):
        chance = Random(56)
        for _ in range(40):
            n = chance.randint(2, 4)
            table = a_table(chance, chance.randint(1, 4), n, 3)
            for left_out in range(n):
                less = tuple(row[:left_out] + row[left_out + 1:] for row in table)
                self.assertLessEqual(fewest(less)[0], fewest(table)[0])

    def test_five_unlike_ones(self):
        rows = ((0, 0, 0), (0, 0, 1), (0, 1, 0), (0, 1, 1), (1, 0, 0))
        tables = [rows, rows + rows[:3], the_same(5), no_less(12)]
        tables += [all_unlike(5, 1), all_unlike(5, 4), all_unlike(12, 12)]
        tables += [((1,), (2,), (3,), (4,), (5,)), rows[:4] + ((9, 9, 9),), rows + ((1, 1, 1),)]
        for table in tables:
            self.assertGreater(max(len(unlike_rows(table)), len(unlike_cols(table))), 4)
            check_refused(self, TooGreat, fewest, [table, turned(table)])

    def test_told_behind_a_refusal(self):
        self.check_told(the_same(4), 3)
        check_refused(self, TooGreat, fewest, [the_same(5)])
        self.check_told(the_same(4), 3)


if __name__ == "__main__":
    unittest.main()
