"""[25] Trees of three: what they are, what they tell, their ends; [26] these are shut."""

import itertools
import unittest
from random import Random

from tellfew.shutting import is_shut
from tellfew.threes import ends_of_three, is_three, tells_cube, told_three
from tellfew.trees import depth_of
from tests.things import (a_great_three, a_three, check_false, check_none_of, check_same, check_true, knots_of, nested,
                          nested_dict, odd_things, of_other_kinds, with_part)

SIZES = (1, 2, 3)
END = ("end", 3)
# For these sizes 0 sees two by three, 1 one by three, 2 one by two.
BY_0 = (0, ((0, 1, 0), (1, 1, 0)), END, ("end", 4))
BY_1 = (1, ((0, 1, 1),), ("end", 0), BY_0)
BY_2 = (2, ((1, 0),), BY_1, ("end", 99))
ALL_SIZES = list(itertools.product((1, 2, 3), repeat=3))


def triples_of(sizes):
    return list(itertools.product(*map(range, sizes)))


def walked(tree, triple):
    """What is told of the triple, by the meaning of [25]."""
    if tree[0] == "end":
        return (), tree[1]
    x, y, z = triple
    seen = {0: (y, z), 1: (x, z), 2: (x, y)}[tree[0]]
    sign = tree[1][seen[0]][seen[1]]
    signs, answer = walked(tree[2 + sign], triple)
    return (sign,) + signs, answer


def cube_of(tree, sizes):
    a, b, c = sizes
    return tuple(tuple(tuple(walked(tree, (x, y, z))[1] for z in range(c)) for y in range(b)) for x in range(a))


def some_trees(seed, many):
    chance = Random(seed)
    trees = []
    for _ in range(many):
        sizes = chance.choice(ALL_SIZES)
        trees.append((sizes, a_three(chance, sizes, chance.randrange(8), answers=4)))
    return trees + [((3, 3, 3), a_great_three((3, 3, 3))), ((2, 1, 3), a_great_three((2, 1, 3)))]


class IsThree(unittest.TestCase):

    def check_no_trees(self, things, sizes=SIZES):
        check_none_of(self, lambda thing: is_three(sizes, thing), things)

    def test_trees(self):
        for tree in (END, ("end", 0), ("end", 99), BY_0, BY_1, BY_2):
            check_true(self, is_three(SIZES, tree))
        for sizes, tree in some_trees(221, 40):
            check_true(self, is_three(sizes, tree))

    def test_the_greatest(self):
        tree = a_great_three((3, 3, 3))
        self.assertEqual(knots_of(tree), 200)
        self.assertEqual(depth_of(tree), 10)
        check_true(self, is_three((3, 3, 3), tree))
        self.check_no_trees([tree], (3, 3, 2))
        chain = END
        for k in range(28):
            chain = (2, ((1, 0),), chain, ("end", k))
        check_true(self, is_three(SIZES, chain))

    def test_signs_by_what_who_sees(self):
        shapes = {sizes: [(sizes[1], sizes[2]), (sizes[0], sizes[2]), (sizes[0], sizes[1])] for sizes in ALL_SIZES}
        for sizes in ALL_SIZES:
            for who in range(3):
                for m, n in itertools.product(range(5), repeat=2):
                    thing = (who, ((0,) * n,) * m, END, END)
                    check_same(self, is_three(sizes, thing), (m, n) == shapes[sizes][who])

    def test_signs_of_another_shape(self):
        for signs in ((), (0, 1), ((0, 1, 0),), ((0, 1, 0),) * 3, ((0, 1), (0, 1), (0, 1)), ((0, 1, 0), (0, 1)),
                      ((0, 1, 0), ()), ((0, 1, 0), (0, 1, 0, 1)), (0, 1, 0, 1, 1, 0), ((), ()), (((0, 1, 0),) * 2,),
                      ((0, 1, 2), (0, 1, 0)), ((0, 1, 0), (0, -1, 0)), ((0, 1, 0), 0), "010110", ("010", "110")):
            self.check_no_trees([(0, signs, END, END), (2, ((1, 0),), (0, signs, END, END), END)])

    def test_signs_that_are_none(self):
        for sign in (True, False, 2, -1, 10 ** 39, "0", "", None, (), (0,), [0], {}):
            for tree in (BY_0, BY_1, BY_2):
                self.check_no_trees([with_part(tree, (1, 0, 1), sign), with_part(tree, (1, 0, 0), sign)])
            self.check_no_trees([with_part(BY_2, (2, 3, 1, 1, 2), sign)])

    def test_who_that_is_none(self):
        for who in (True, False, "0", "row", "col", "end", "", None, 3, -1, -3, 10 ** 39, (0,), [0], {}, ()):
            for tree in (BY_0, BY_1, BY_2):
                self.check_no_trees([(who,) + tree[1:]])
        # Of these sizes all three see as many.
        for who in (True, False, "1", 3, -1):
            self.check_no_trees([(who, ((0,),), END, END)], (1, 1, 1))
        for who in range(3):
            check_true(self, is_three((1, 1, 1), (who, ((0,),), END, END)))

    def test_answers_that_are_none(self):
        for answer in (-1, 100, True, False, "3", "", None, (), (3,), [3], {}, 10 ** 39):
            self.check_no_trees([("end", answer), with_part(BY_0, (2,), ("end", answer)),
                                 with_part(BY_2, (2, 3, 3, 1), answer)])

    def test_other_words_for_end(self):
        for word in ("END", "end ", "", "ends", 0, 1, None, True, ("end",), ["end"]):
            self.check_no_trees([(word, 3), with_part(BY_0, (3, 0), word)])

    def test_parts_missing_or_too_many(self):
        self.check_no_trees([(), ("end",), ("end", 3, 3), ("end", 3, END), ("end", 3, END, END), (0,), BY_0[:2],
                             BY_0[:3], BY_0 + (END,), (END,), (END, END), BY_0[1:], (BY_0,), BY_0 + BY_0])
        self.check_no_trees([with_part(BY_2, (2, 3, 2), thing) for thing in ((), ("end",), (END,), BY_0[:3], "end")])

    def test_of_other_kinds(self):
        self.check_no_trees(of_other_kinds(BY_2))
        self.check_no_trees(of_other_kinds((0, ((0,),), END, ("end", 1))), (1, 1, 1))

    def test_of_anything(self):
        self.check_no_trees(odd_things())
        self.check_no_trees(odd_things(), (1, 1, 1))
        for thing in odd_things() + [nested(END, 25), nested(END, 25, list), nested_dict(END, 25)]:
            self.check_no_trees([with_part(BY_0, way, thing) for way in ((1,), (2,), (3,))])
            self.check_no_trees([with_part(BY_2, (2, 3, 3), thing)])
        for thing in (nested(0, 25), nested_dict(0, 25), nested((0, 1, 0), 25)):
            for way in ((0,), (1,), (1, 0), (1, 1, 2), (2, 0), (2, 1)):
                self.check_no_trees([with_part(BY_0, way, thing)])

    def test_trees_of_two_are_none_of_three(self):
        self.check_no_trees([("row", (0,), END, END), ("col", (0, 1), END, END), (0, (0, 1), END, END)])


class Told(unittest.TestCase):

    def test_of_each_triple(self):
        check_same(self, told_three(BY_2, 0, 0, 0), ((1,), 99))
        check_same(self, told_three(BY_2, 0, 0, 2), ((1,), 99))
        check_same(self, told_three(BY_2, 0, 1, 0), ((0, 0), 0))
        check_same(self, told_three(BY_2, 0, 1, 1), ((0, 1, 1), 4))
        check_same(self, told_three(BY_2, 0, 1, 2), ((0, 1, 0), 3))
        check_same(self, told_three(BY_0, 0, 0, 1), ((1,), 4))
        check_same(self, told_three(BY_0, 0, 1, 0), ((1,), 4))

    def test_at_an_end_nothing_is_told(self):
        check_same(self, told_three(END, 2, 1, 0), ((), 3))

    def test_who_sees_what(self):
        signs = tuple(tuple(int(k == 3 * i + j) for j in range(3)) for k in range(9) for i in range(3))
        for k in range(9):
            for triple in triples_of((3, 3, 3)):
                for who in range(3):
                    seen = triple[:who] + triple[who + 1:]
                    tree = (who, signs[3 * k:3 * k + 3], ("end", 0), ("end", 1))
                    sign = int(3 * seen[0] + seen[1] == k)
                    check_same(self, told_three(tree, *triple), ((sign,), sign))

    def test_by_its_meaning(self):
        for sizes, tree in some_trees(222, 40):
            for triple in triples_of(sizes):
                check_same(self, told_three(tree, *triple), walked(tree, triple))


class TellsCube(unittest.TestCase):

    def test_right(self):
        check_true(self, tells_cube((((99, 99, 99), (0, 4, 3)),), BY_2))
        check_true(self, tells_cube((((7,),),), ("end", 7)))
        check_false(self, tells_cube((((7,),),), ("end", 8)))
        for sizes, tree in some_trees(223, 30):
            check_true(self, tells_cube(cube_of(tree, sizes), tree))

    def test_each_wrong_triple_is_seen(self):
        for sizes, tree in some_trees(224, 15):
            cube = cube_of(tree, sizes)
            for x, y, z in triples_of(sizes):
                check_false(self, tells_cube(with_part(cube, (x, y, z), (cube[x][y][z] + 1) % 100), tree))


class Ends(unittest.TestCase):

    def test_in_order(self):
        check_same(self, ends_of_three(BY_2, SIZES), (
            (((0, 1, 0),), 0), (((0, 1, 2),), 3), (((0, 1, 1),), 4), (((0, 0, 0), (0, 0, 1), (0, 0, 2)), 99)))

    def test_one_end(self):
        check_same(self, ends_of_three(("end", 5), (1, 1, 1)), ((((0, 0, 0),), 5),))
        for sizes in ALL_SIZES:
            check_same(self, ends_of_three(("end", 5), sizes), ((tuple(triples_of(sizes)), 5),))

    def test_ends_that_no_triple_comes_to(self):
        tree = (0, ((0, 0, 0), (0, 0, 0)), ("end", 1), (2, ((0, 1),), ("end", 2), ("end", 3)))
        check_same(self, ends_of_three(tree, SIZES), ((tuple(triples_of(SIZES)), 1), ((), 2), ((), 3)))
        tree = (1, ((1, 1, 1),), (1, ((0, 1, 1),), ("end", 1), ("end", 2)), ("end", 3))
        check_same(self, ends_of_three(tree, SIZES), (((), 1), ((), 2), (tuple(triples_of(SIZES)), 3)))

    def test_by_their_meaning(self):
        def ends(tree, way):
            if tree[0] == "end":
                return [(way, tree[1])]
            return ends(tree[2], way + (0,)) + ends(tree[3], way + (1,))
        for sizes, tree in some_trees(225, 40):
            came = {}
            for triple in triples_of(sizes):
                came.setdefault(walked(tree, triple)[0], []).append(triple)
            check_same(self, ends_of_three(tree, sizes),
                       tuple((tuple(came.get(way, [])), answer) for way, answer in ends(tree, ())))

    def test_triples_of_each_end_are_shut(self):
        for sizes, tree in some_trees(226, 60):
            for triples, _ in ends_of_three(tree, sizes):
                check_true(self, is_shut(triples))


if __name__ == "__main__":
    unittest.main()
