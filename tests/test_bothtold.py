"""[31] Tellings, draws and trees of two tables at once."""

import itertools
import unittest
from random import Random

from tellfew.bothtold import both_draws, both_tellings, both_trees
from tellfew.drawn import worst, wrong_in
from tellfew.telling import ends_of, first_wrong, tells, told
from tellfew.together import both
from tellfew.trees import depth_of, is_tree
from tellfew.words import is_telling, one_word, told_by, wrong_pairs
from tests.things import a_table, a_tree, check_same, check_true, some_draws
from tests.test_together import FEW

ALL_SIZES = [(m, n, k, l) for m, k in FEW for n, l in FEW]
MOST_SIZES = [(12, 12, 1, 1), (1, 1, 12, 12), (12, 1, 1, 12), (1, 12, 12, 1), (3, 4, 4, 3), (6, 2, 2, 6), (1, 1, 1, 1)]


def some_sizes(seed, many):
    return MOST_SIZES + Random(seed).sample(ALL_SIZES, many)


def a_telling(chance, m, n, many, answers=10):
    return tuple(chance.randrange(many) for _ in range(m)), a_table(chance, many, n, answers)


def pairs_of(sizes):
    """All (i, j, r, c): row and column of the first table, of the second one."""
    m, n, k, l = sizes
    return list(itertools.product(range(m), range(n), range(k), range(l)))


def a_way(tree_depth, m, n, answers):
    """A tree of one long way of that depth, each of its ends with another answer."""
    tree = ("end", answers[0])
    for at in range(tree_depth):
        who = "row" if at % 2 else "col"
        signs = tuple((at + k) % 2 for k in range(m if who == "row" else n))
        tree = (who, signs, ("end", answers[at + 1]), tree)
    return tree


class BothTellings(unittest.TestCase):

    def test_small_ones(self):
        one, other = ((0, 1), ((1,), (2,))), ((2, 0, 2), ((3,), (4,), (5,)))
        check_same(self, both_tellings(one, other),
                   ((2, 0, 2, 5, 3, 5), ((13,), (14,), (15,), (23,), (24,), (25,))))
        check_same(self, both_tellings(other, one),
                   ((4, 5, 0, 1, 4, 5), ((31,), (32,), (41,), (42,), (51,), (52,))))
        one, other = ((0,), ((1, 2),)), ((0,), ((3, 4, 5),))
        check_same(self, both_tellings(one, other), ((0,), ((13, 14, 15, 23, 24, 25),)))

    def test_words_that_no_row_has(self):
        one, other = ((2,), ((0,), (9,), (1,))), ((1, 1), ((9,), (8,), (7,), (0,)))
        words, answers = both_tellings(one, other)
        check_same(self, words, (9, 9))
        check_same(self, answers, ((9,), (8,), (7,), (0,), (99,), (98,), (97,), (90,), (19,), (18,), (17,), (10,)))

    def test_each_answer(self):
        chance = Random(351)
        for sizes in some_sizes(352, 60):
            m, n, k, l = sizes
            one = a_telling(chance, m, n, chance.randint(1, 12))
            other = a_telling(chance, k, l, chance.randint(1, 12))
            telling = both_tellings(one, other)
            check_true(self, is_telling(m * k, n * l, telling))
            many = len(other[1])
            self.assertEqual(len(telling[1]), len(one[1]) * many)
            for i, j, r, c in pairs_of(sizes):
                check_same(self, telling[0][i * k + r], one[0][i] * many + other[0][r])
                due = 10 * told_by(one, i, j) + told_by(other, r, c)
                check_same(self, told_by(telling, i * k + r, j * l + c), due)

    def test_twelve_words_of_each(self):
        one = (tuple(range(12)), tuple((k % 10,) for k in range(12)))
        other = ((0,), tuple((k % 7,) for k in range(12)))
        words, answers = both_tellings(one, other)
        check_same(self, words, tuple(12 * k for k in range(12)))
        check_same(self, answers, tuple((10 * (v % 10) + w % 7,) for v in range(12) for w in range(12)))

    def test_right_and_wrong_pairs(self):
        chance = Random(353)
        for sizes in some_sizes(354, 60):
            m, n, k, l = sizes
            one_table, other_table = a_table(chance, m, n, 3), a_table(chance, k, l, 3)
            table = both(one_table, other_table)
            check_same(self, wrong_pairs(table, both_tellings(one_word(one_table), one_word(other_table))), ())
            one, other = a_telling(chance, m, n, 3, 3), a_telling(chance, k, l, 3, 3)
            wrong = [(i * k + r, j * l + c) for i, j, r, c in pairs_of(sizes)
                     if (i, j) in wrong_pairs(one_table, one) or (r, c) in wrong_pairs(other_table, other)]
            check_same(self, wrong_pairs(table, both_tellings(one, other)), tuple(sorted(wrong)))

    def test_of_right_tellings_of_the_fewest_words_as_few(self):
        chance = Random(355)
        for m, n, k, l in some_sizes(356, 40):
            one, other = a_table(chance, m, n, 2), a_table(chance, k, l, 2)
            words = both_tellings(one_word(one), one_word(other))[1]
            self.assertEqual(len(words), len(one_word(both(one, other))[1]))


class BothDraws(unittest.TestCase):

    def test_small_ones(self):
        first, second, third = ((0,), ((1,),)), ((0,), ((2,),)), ((0,), ((3,),))
        told_of_both = both_draws(((2, first), (3, second)), ((5, third), (7, first), (11, second)))
        check_same(self, [weight for weight, _ in told_of_both], [10, 14, 22, 15, 21, 33])
        check_same(self, [telling for _, telling in told_of_both],
                   [((0,), ((answer,),)) for answer in (13, 11, 12, 23, 21, 22)])

    def test_each_of_each_in_order(self):
        chance = Random(357)
        for sizes in some_sizes(358, 40):
            m, n, k, l = sizes
            one = some_draws(chance, a_table(chance, m, n), chance.randint(1, 4), 3, 10)
            other = some_draws(chance, a_table(chance, k, l), chance.randint(1, 4), 3, 10)
            due = []
            for weight, telling in one:
                for more, second in other:
                    due.append((weight * more, both_tellings(telling, second)))
            check_same(self, both_draws(one, other), tuple(due))

    def test_rights_are_multiplied(self):
        chance = Random(359)
        for sizes in some_sizes(360, 40):
            m, n, k, l = sizes
            one_table, other_table = a_table(chance, m, n, 2), a_table(chance, k, l, 2)
            one = some_draws(chance, one_table, chance.randint(1, 4), 3, 2)
            other = some_draws(chance, other_table, chance.randint(1, 4), 3, 2)
            draws = both_draws(one, other)
            totals = [sum(weight for weight, _ in some) for some in (one, other, draws)]
            self.assertEqual(totals[2], totals[0] * totals[1])
            wrong = [wrong_in(one_table, one), wrong_in(other_table, other),
                     wrong_in(both(one_table, other_table), draws)]
            for i, j, r, c in pairs_of(sizes):
                right = (totals[0] - wrong[0][i][j]) * (totals[1] - wrong[1][r][c])
                check_same(self, totals[2] - wrong[2][i * k + r][j * l + c], right)

    def test_four_of_each_of_the_greatest_weights(self):
        chance = Random(361)
        table = a_table(chance, 12, 12, 10)
        one = some_draws(chance, table, 4, 12, 10, 10 ** 6)
        other = tuple((10 ** 6, ((0,), ((k,),))) for k in range(4))
        draws = both_draws(one, other)
        self.assertEqual(len(draws), 16)
        check_same(self, draws[15][0], one[3][0] * 10 ** 6)
        total = sum(weight for weight, _ in draws)
        weight, (i, j) = worst(both(table, ((1,),)), draws)
        right = sum(weight for weight, telling in one if told_by(telling, i, j) == table[i][j])
        check_same(self, weight, total - right * 10 ** 6)


class BothTrees(unittest.TestCase):

    def check_told(self, one, other, sizes):
        m, n, k, l = sizes
        tree = both_trees(one, other, sizes)
        check_true(self, is_tree(m * k, n * l, tree))
        check_same(self, depth_of(tree), depth_of(one) + depth_of(other))
        for i, j, r, c in pairs_of(sizes):
            first, a = told(one, i, j)
            second, b = told(other, r, c)
            check_same(self, told(tree, i * k + r, j * l + c), (first + second, 10 * a + b))

    def test_both_an_end_alone(self):
        for a, b in itertools.product((0, 3, 9), repeat=2):
            for sizes in MOST_SIZES:
                check_same(self, both_trees(("end", a), ("end", b), sizes), ("end", 10 * a + b))

    def test_an_end_and_a_tree(self):
        tree = ("row", (0, 1), ("col", (1, 0, 0), ("end", 1), ("end", 2)), ("end", 3))
        check_same(self, both_trees(tree, ("end", 4), (2, 3, 2, 1)),
                   ("row", (0, 0, 1, 1), ("col", (1, 0, 0), ("end", 14), ("end", 24)), ("end", 34)))
        check_same(self, both_trees(tree, ("end", 4), (2, 3, 1, 2)),
                   ("row", (0, 1), ("col", (1, 1, 0, 0, 0, 0), ("end", 14), ("end", 24)), ("end", 34)))
        check_same(self, both_trees(("end", 4), tree, (2, 1, 2, 3)),
                   ("row", (0, 1, 0, 1), ("col", (1, 0, 0), ("end", 41), ("end", 42)), ("end", 43)))
        check_same(self, both_trees(("end", 4), tree, (1, 2, 2, 3)),
                   ("row", (0, 1), ("col", (1, 0, 0, 1, 0, 0), ("end", 41), ("end", 42)), ("end", 43)))

    def test_the_second_one_in_the_place_of_each_end(self):
        one = ("row", (0, 1), ("end", 1), ("end", 2))
        other = ("col", (1, 0), ("end", 3), ("end", 4))
        check_same(self, both_trees(one, other, (2, 3, 1, 2)),
                   ("row", (0, 1), ("col", (1, 0) * 3, ("end", 13), ("end", 14)),
                    ("col", (1, 0) * 3, ("end", 23), ("end", 24))))
        check_same(self, both_trees(other, one, (1, 2, 2, 2)),
                   ("col", (1, 1, 0, 0), ("row", (0, 1), ("end", 31), ("end", 32)),
                    ("row", (0, 1), ("end", 41), ("end", 42))))

    def test_by_their_meaning(self):
        chance = Random(362)
        for sizes in some_sizes(363, 80):
            m, n, k, l = sizes
            depth = chance.randint(0, 6)
            self.check_told(a_tree(chance, m, n, depth, answers=10), a_tree(chance, k, l, 6 - depth, answers=10), sizes)

    def test_depths_that_make_six_together(self):
        for sizes in MOST_SIZES + [(3, 3, 3, 3)]:
            m, n, k, l = sizes
            for depth in range(7):
                self.check_told(a_way(depth, m, n, (0, 1, 2, 3, 4, 5, 9)),
                                a_way(6 - depth, k, l, (9, 8, 7, 6, 5, 4, 0)),
                                sizes)

    def test_tables_of_both_are_told(self):
        chance = Random(364)
        for sizes in some_sizes(365, 40):
            m, n, k, l = sizes
            one, other = a_tree(chance, m, n, 3, answers=3), a_tree(chance, k, l, 3, answers=3)
            tables = [tuple(tuple(told(tree, i, j)[1] for j in range(cols)) for i in range(rows))
                      for tree, rows, cols in ((one, m, n), (other, k, l))]
            tree = both_trees(one, other, sizes)
            check_true(self, tells(both(*tables), tree))
            self.assertEqual(len(ends_of(tree, m * k, n * l)), len(ends_of(one, m, n)) * len(ends_of(other, k, l)))
            other_table = ((9,) * l,) * k
            i, j, r, c = min(pairs_of(sizes), key=lambda pair: (pair[0] * k + pair[2], pair[1] * l + pair[3]))
            check_same(self, first_wrong(both(tables[0], other_table), tree), (i * k + r, j * l + c))


if __name__ == "__main__":
    unittest.main()
