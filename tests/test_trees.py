"""[7] Trees and their depth."""

import unittest
from random import Random

from tellfew.trees import depth_of, is_tree
from tests.things import (a_great_tree, a_long_tree, a_tree, check_none_of, check_same, check_true, knots_of, nested,
                          nested_dict, odd_things)

END = ("end", 3)
ROW = ("row", (0, 1), END, ("end", 4))
COL = ("col", (1, 0, 0), ROW, END)


class IsTree(unittest.TestCase):

    def check_no_trees(self, things, m=2, n=3):
        check_none_of(self, lambda thing: is_tree(m, n, thing), things)

    def test_trees(self):
        for thing in (END, ("end", 0), ("end", 99), ROW, COL, ("row", (0, 0), COL, ROW), ("col", (1, 1, 1), END, COL)):
            check_true(self, is_tree(2, 3, thing))

    def test_by_rows_and_columns(self):
        check_true(self, is_tree(1, 1, ("row", (0,), END, ("col", (1,), END, END))))
        check_true(self, is_tree(12, 1, ("row", (0, 1) * 6, END, END)))
        check_true(self, is_tree(1, 12, ("col", (0, 1) * 6, END, END)))
        check_true(self, is_tree(5, 7, END))

    def test_great_ones(self):
        for tree in (a_great_tree(12, 12), a_long_tree(12, 12, 10)):
            check_true(self, is_tree(12, 12, tree))
            self.check_no_trees([tree], 12, 11)
            self.check_no_trees([tree], 11, 12)

    def test_no_bound_is_looked_at(self):
        check_true(self, is_tree(2, 2, a_long_tree(2, 2, 28)))
        check_true(self, is_tree(40, 2, ("row", (0, 1) * 20, END, END)))
        full = END
        for _ in range(8):
            full = ("row", (0, 1), full, full)
        self.assertEqual(knots_of(full), 255)
        check_true(self, is_tree(2, 3, full))

    def test_wrong_words(self):
        words = ["END", "End", "end ", "", "ends", "knot", "0", 0, 1, None, True, ("end",), ["end"], {}]
        self.check_no_trees([(word, 3) for word in words])
        self.check_no_trees([("row", 3), ("col", 3)])
        words = ["ROW", "Row", "rows", "column", "", "r", 0, 1, None, True, ("row",), ["row"], {}, "end"]
        self.check_no_trees([(word, (0, 1), END, END) for word in words])
        self.check_no_trees([(word, (0, 1, 1), END, END) for word in words])

    def test_too_few_or_too_many_signs(self):
        for signs in ((), (0,), (0, 1, 0), (0, 1, 0, 1)):
            self.check_no_trees([("row", signs, END, END)])
        for signs in ((), (0,), (0, 1), (0, 1, 0, 1)):
            self.check_no_trees([("col", signs, END, END)])

    def test_signs_that_are_none(self):
        for sign in (True, False, 2, -1, 10 ** 39, "0", "", None, (), (0,), [0], {}):
            self.check_no_trees([("row", (0, sign), END, END), ("row", (sign, 1), END, END)])
            self.check_no_trees([("col", (0, sign, 1), END, END), ("col", (0, 1, sign), END, END)])
            self.check_no_trees([("row", (0, 1), ("col", (sign, 0, 1), END, END), END)])
        for signs in ([0, 1], "01", {0: 0, 1: 1}, None, 1, ((0, 1),), 10):
            self.check_no_trees([("row", signs, END, END)])

    def test_answers_that_are_none(self):
        answers = [-1, 100, 10 ** 39, -(10 ** 39), True, False, "3", "", None, (), (3,), [3], {}]
        self.check_no_trees([("end", answer) for answer in answers])
        self.check_no_trees([("row", (0, 1), ("end", answer), END) for answer in answers])
        self.check_no_trees([("row", (0, 1), END, ("end", answer)) for answer in answers])

    def test_parts_missing_or_too_many(self):
        self.check_no_trees([(), ("end",), ("end", 3, 3), ("end", 3, END), ("end", 3, END, END), ("row",)])
        self.check_no_trees([("row", (0, 1)), ("row", (0, 1), END), ("row", (0, 1), END, END, END), (END,), (END, END)])
        self.check_no_trees([("row", END, END), ((0, 1), END, END), ("row", (0, 1), END, ("end",))])

    def test_branches_that_are_none(self):
        for thing in odd_things():
            self.check_no_trees([("row", (0, 1), thing, END), ("row", (0, 1), END, thing)])
            self.check_no_trees([("col", (0, 1, 1), COL, ("row", (0, 1), thing, END))])

    def test_lists_and_dicts(self):
        self.check_no_trees([["end", 3], ["row", (0, 1), END, END], ("row", (0, 1), ["end", 3], END)])
        self.check_no_trees([("row", (0, 1), END, ["end", 3]), {"end": 3}, {0: "end", 1: 3}, "end 3"])

    def test_things_nested_deep(self):
        deep = [nested(END, 28), nested(END, 28, list), nested_dict(END, 28), nested("end", 30)]
        self.check_no_trees(deep + [a_long_tree(2, 3, 27)[:3] + (thing,) for thing in ("end", (), nested(END, 1))])
        tree = ("end", 100)
        for _ in range(28):
            tree = ("row", (0, 1), END, tree)
        self.check_no_trees([tree])

    def test_of_anything(self):
        self.check_no_trees(odd_things())
        self.check_no_trees(odd_things(), 1, 1)


class Depth(unittest.TestCase):

    def test_depths(self):
        check_same(self, depth_of(END), 0)
        check_same(self, depth_of(ROW), 1)
        check_same(self, depth_of(COL), 2)
        check_same(self, depth_of(("row", (0, 1), END, COL)), 3)
        check_same(self, depth_of(("row", (0, 1), COL, END)), 3)

    def test_a_way_that_no_pair_goes(self):
        check_same(self, depth_of(("row", (0, 0), END, COL)), 3)
        check_same(self, depth_of(("row", (1, 1), COL, END)), 3)
        check_same(self, depth_of(("row", (0, 1), ("row", (1, 0), ("row", (0, 1), END, END), END), END)), 3)

    def test_great_ones(self):
        check_same(self, depth_of(a_long_tree(12, 12, 10)), 10)
        tree = a_great_tree(12, 12)
        check_same(self, depth_of(tree), 10)
        self.assertEqual(knots_of(tree), 200)

    def test_by_its_meaning(self):
        def longest(tree):
            return 0 if tree[0] == "end" else 1 + max(longest(branch) for branch in tree[2:])
        chance = Random(11)
        for _ in range(60):
            tree = a_tree(chance, 3, 2, chance.randrange(11))
            check_same(self, depth_of(tree), longest(tree))


if __name__ == "__main__":
    unittest.main()
