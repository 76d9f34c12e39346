"""[7], [8] What is told by a tree, its first wrong pair, its ends."""

import unittest
from random import Random

from tellfew.telling import ends_of, first_wrong, tells, told
from tellfew.trees import is_tree
from tests.things import a_great_tree, a_long_tree, a_tree, check_false, check_same, check_true

TREE = ("row", (0, 1, 1),
        ("col", (1, 0), ("end", 7), ("end", 8)),
        ("row", (1, 0, 1), ("end", 5), ("col", (0, 1), ("end", 4), ("end", 6))))
TABLE = ((8, 7), (5, 5), (4, 6))


def some_trees(seed, many, most=6):
    """(m, n, tree), of sizes to that number."""
    chance = Random(seed)
    trees = []
    for _ in range(many):
        m, n = chance.randint(1, most), chance.randint(1, most)
        trees.append((m, n, a_tree(chance, m, n, chance.randrange(8), answers=3)))
    return trees + [(12, 12, a_great_tree(12, 12)), (12, 12, a_long_tree(12, 12, 10)), (12, 1, a_great_tree(12, 1))]


def table_of(m, n, tree):
    return tuple(tuple(told(tree, i, j)[1] for j in range(n)) for i in range(m))


class Told(unittest.TestCase):

    def test_of_each_pair(self):
        check_same(self, told(TREE, 0, 0), ((0, 1), 8))
        check_same(self, told(TREE, 0, 1), ((0, 0), 7))
        check_same(self, told(TREE, 1, 0), ((1, 0), 5))
        check_same(self, told(TREE, 1, 1), ((1, 0), 5))
        check_same(self, told(TREE, 2, 0), ((1, 1, 0), 4))
        check_same(self, told(TREE, 2, 1), ((1, 1, 1), 6))

    def test_at_an_end_nothing_is_told(self):
        check_same(self, told(("end", 0), 3, 4), ((), 0))

    def test_who_tells(self):
        check_same(self, told(("row", (0, 1), ("end", 1), ("end", 2)), 1, 0), ((1,), 2))
        check_same(self, told(("col", (0, 1), ("end", 1), ("end", 2)), 1, 0), ((0,), 1))

    def test_by_its_meaning(self):
        def walked(tree, i, j):
            if tree[0] == "end":
                return (), tree[1]
            sign = tree[1][{"row": i, "col": j}[tree[0]]]
            signs, answer = walked(tree[2 + sign], i, j)
            return (sign,) + signs, answer
        for m, n, tree in some_trees(21, 40):
            for i in range(m):
                for j in range(n):
                    check_same(self, told(tree, i, j), walked(tree, i, j))


class Tells(unittest.TestCase):

    def test_right(self):
        check_true(self, tells(TABLE, TREE))
        check_same(self, first_wrong(TABLE, TREE), None)
        check_true(self, tells(((3,),), ("end", 3)))
        check_same(self, first_wrong(((3, 3), (3, 3)), ("end", 3)), None)

    def test_each_wrong_pair_is_seen(self):
        for i in range(3):
            for j in range(2):
                rows = [list(row) for row in TABLE]
                rows[i][j] = 99
                table = tuple(tuple(row) for row in rows)
                check_false(self, tells(table, TREE))
                check_same(self, first_wrong(table, TREE), (i, j))

    def test_the_first_of_several(self):
        check_same(self, first_wrong(((1, 1), (1, 1)), ("end", 0)), (0, 0))
        check_same(self, first_wrong(((0, 1), (1, 0)), ("end", 0)), (0, 1))
        check_same(self, first_wrong(((0, 0), (1, 0), (1, 1)), ("end", 0)), (1, 0))
        check_same(self, first_wrong(((0, 0, 1), (1, 0, 0)), ("end", 0)), (0, 2))

    def test_tables_told_by_great_trees(self):
        for m, n, tree in some_trees(22, 30):
            table = table_of(m, n, tree)
            check_true(self, tells(table, tree))
            last = table[:-1] + (table[-1][:-1] + ((table[-1][-1] + 1) % 100,),)
            check_false(self, tells(last, tree))
            check_same(self, first_wrong(last, tree), (m - 1, n - 1))

    def test_by_its_meaning(self):
        chance = Random(23)
        for m, n, tree in some_trees(24, 60):
            table = tuple(tuple(chance.randrange(3) for _ in range(n)) for _ in range(m))
            wrong = [(i, j) for i in range(m) for j in range(n) if told(tree, i, j)[1] != table[i][j]]
            check_same(self, first_wrong(table, tree), wrong[0] if wrong else None)
            check_same(self, tells(table, tree), not wrong)


class Ends(unittest.TestCase):

    def test_in_order(self):
        check_same(self, ends_of(TREE, 3, 2), (
            ((0,), (1,), 7), ((0,), (0,), 8), ((1,), (0, 1), 5), ((2,), (0,), 4), ((2,), (1,), 6)))

    def test_one_end(self):
        check_same(self, ends_of(("end", 9), 3, 2), (((0, 1, 2), (0, 1), 9),))
        check_same(self, ends_of(("end", 0), 1, 1), (((0,), (0,), 0),))

    def test_ends_that_none_comes_to(self):
        tree = ("row", (0, 0), ("end", 1), ("col", (1, 1, 1), ("end", 2), ("end", 3)))
        check_same(self, ends_of(tree, 2, 3), (((0, 1), (0, 1, 2), 1), ((), (), 2), ((), (0, 1, 2), 3)))
        tree = ("col", (1, 1), ("row", (0, 1), ("end", 1), ("end", 2)), ("end", 3))
        check_same(self, ends_of(tree, 2, 2), (((0,), (), 1), ((1,), (), 2), ((0, 1), (0, 1), 3)))

    def test_rows_whose_signs_part_on_the_way(self):
        tree = ("row", (0, 1), ("row", (0, 1), ("end", 1), ("end", 2)), ("row", (0, 1), ("end", 3), ("end", 4)))
        check_same(self, ends_of(tree, 2, 1), (((0,), (0,), 1), ((), (0,), 2), ((), (0,), 3), ((1,), (0,), 4)))

    def test_each_pair_comes_to_one_end(self):
        for m, n, tree in some_trees(25, 40):
            self.assertTrue(is_tree(m, n, tree))
            ends = ends_of(tree, m, n)
            came = {}
            for rows, cols, answer in ends:
                self.assertIs(type(rows), tuple)
                self.assertIs(type(cols), tuple)
                self.assertEqual(list(rows), sorted(set(rows)))
                self.assertEqual(list(cols), sorted(set(cols)))
                for i in rows:
                    for j in cols:
                        self.assertNotIn((i, j), came)
                        came[i, j] = answer
            expected = {(i, j): told(tree, i, j)[1] for i in range(m) for j in range(n)}
            self.assertEqual(came, expected)

    def test_by_their_meaning(self):
        def listed(tree, asked):
            if tree[0] == "end":
                return [(asked, tree[1])]
            who, signs, t, u = tree
            return listed(t, asked + [(who, signs, 0)]) + listed(u, asked + [(who, signs, 1)])

        def left(count, word, asked):
            return tuple(k for k in range(count)
                         if all(signs[k] == sign for who, signs, sign in asked if who == word))
        for m, n, tree in some_trees(26, 40):
            expected = tuple((left(m, "row", asked), left(n, "col", asked), answer)
                             for asked, answer in listed(tree, []))
            check_same(self, ends_of(tree, m, n), expected)


if __name__ == "__main__":
    unittest.main()
