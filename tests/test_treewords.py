"""[14] The words of a tree."""

import unittest
from random import Random

from tellfew.telling import told
from tellfew.treewords import words_of
from tests.things import a_great_tree, a_long_tree, a_tree, check_same

ENDS = (("end", 1), ("end", 2))


class WordsOf(unittest.TestCase):

    def test_no_row_knot(self):
        check_same(self, words_of(("end", 1), 3), ((), (), ()))
        check_same(self, words_of(("col", (0, 1), *ENDS), 3), ((), (), ()))
        check_same(self, words_of(("col", (0, 1), ("col", (1, 1), *ENDS), ("end", 3)), 1), ((),))

    def test_one_row_knot(self):
        check_same(self, words_of(("row", (0, 1, 1), *ENDS), 3), ((0,), (1,), (1,)))
        check_same(self, words_of(("col", (0, 1), ("end", 5), ("row", (0, 1, 1), *ENDS)), 3), ((0,), (1,), (1,)))

    def test_all_row_knots_in_the_order_in_which_a_tree_is_written(self):
        first, second, third = (0, 0, 1, 1), (0, 1, 0, 1), (1, 1, 1, 0)
        tree = ("row", first, ("row", second, *ENDS), ("row", third, *ENDS))
        check_same(self, words_of(tree, 4), ((0, 0, 1), (0, 1, 1), (1, 0, 1), (1, 1, 0)))
        tree = ("row", first, ("col", (0,), ("end", 1), ("row", second, *ENDS)), ("row", third, *ENDS))
        check_same(self, words_of(tree, 4), ((0, 0, 1), (0, 1, 1), (1, 0, 1), (1, 1, 0)))
        tree = ("row", first, ("row", second, ("row", third, *ENDS), ("end", 4)), ("end", 3))
        check_same(self, words_of(tree, 4), ((0, 0, 1), (0, 1, 1), (1, 0, 1), (1, 1, 0)))
        tree = ("col", (0,), ("row", third, ("end", 4), ("row", first, *ENDS)), ("row", second, *ENDS))
        check_same(self, words_of(tree, 4), ((1, 0, 0), (1, 0, 1), (1, 1, 0), (0, 1, 1)))

    def test_signs_at_knots_that_no_pair_comes_to(self):
        tree = ("row", (0, 0), ("end", 1), ("row", (0, 1), *ENDS))
        check_same(self, words_of(tree, 2), ((0, 0), (0, 1)))

    def test_by_their_meaning(self):
        def listed(tree):
            if tree[0] == "end":
                return []
            own = [tree[1]] if tree[0] == "row" else []
            return own + listed(tree[2]) + listed(tree[3])
        chance = Random(81)
        trees = [a_tree(chance, 4, 3, chance.randrange(9)) for _ in range(40)]
        for tree in trees + [a_great_tree(4, 3), a_long_tree(4, 3, 10)]:
            asked = listed(tree)
            check_same(self, words_of(tree, 4), tuple(tuple(signs[i] for signs in asked) for i in range(4)))

    def test_rows_with_the_same_are_told_alike(self):
        chance = Random(82)
        for _ in range(60):
            m, n = chance.randint(2, 6), chance.randint(1, 4)
            tree = a_tree(chance, m, n, chance.randrange(4))
            words = words_of(tree, m)
            for i in range(m):
                for k in range(i):
                    if words[i] == words[k]:
                        self.assertEqual([told(tree, i, j) for j in range(n)], [told(tree, k, j) for j in range(n)])

    def test_great_ones(self):
        words = words_of(a_great_tree(12, 12), 12)
        self.assertEqual(len(words), 12)
        self.assertEqual(len({len(word) for word in words}), 1)


if __name__ == "__main__":
    unittest.main()
