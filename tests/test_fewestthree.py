"""[27] The fewest signs of a cube."""

import itertools
import unittest
from random import Random

from tellfew.errors import TooGreat
from tellfew.fewestthree import fewest_three
from tellfew.threes import is_three, tells_cube, told_three
from tellfew.trees import depth_of
from tests.things import a_cube, check_refused, check_same, check_true

SMALL = list(itertools.product((1, 2), repeat=3))


def cube_from(sizes, answers):
    a, b, c = sizes
    return tuple(tuple(tuple(answers[(x * b + y) * c:(x * b + y) * c + c]) for y in range(b)) for x in range(a))


def sizes_of(cube):
    return len(cube), len(cube[0]), len(cube[0][0])


def triples_of(sizes):
    return list(itertools.product(*map(range, sizes)))


def all_signs(sizes):
    """All that one sign may tell: (who, signs)."""
    asked = []
    for who in range(3):
        first, second = sizes[:who] + sizes[who + 1:]
        for flat in itertools.product((0, 1), repeat=first * second):
            asked.append((who, tuple(flat[at:at + second] for at in range(0, len(flat), second))))
    return asked


def sign_of(who, signs, triple):
    i, j = triple[:who] + triple[who + 1:]
    return signs[i][j]


def least_depth(cube):
    """The least depth from below: all sets of triples of which one answer is told by no sign, by one, by two, .."""
    triples = triples_of(sizes_of(cube))
    whole = (1 << len(triples)) - 1
    masks = {sum(1 << at for at, triple in enumerate(triples) if sign_of(who, signs, triple))
             for who, signs in all_signs(sizes_of(cube))}
    told = {chosen for chosen in range(whole + 1)
            if len({cube[x][y][z] for at, (x, y, z) in enumerate(triples) if chosen >> at & 1}) < 2}
    depth = 0
    while whole not in told:
        told = {chosen for chosen in range(whole + 1)
                if any(chosen & mask in told and chosen & ~mask in told for mask in masks)}
        depth += 1
    return depth


def trees_to(sizes, depth, answers):
    """All trees of three for the sizes of at most that depth."""
    trees = [("end", answer) for answer in answers]
    for _ in range(depth):
        trees = [("end", answer) for answer in answers] + [
            (who, signs, t, u) for who, signs in all_signs(sizes) for t in trees for u in trees]
    return trees


class FewestThree(unittest.TestCase):

    def check_told(self, cube, depth):
        sizes = sizes_of(cube)
        found = fewest_three(cube)
        self.assertIs(type(found), tuple)
        self.assertEqual(len(found), 2)
        check_same(self, found[0], depth)
        check_true(self, is_three(sizes, found[1]))
        check_same(self, depth_of(found[1]), depth)
        check_true(self, tells_cube(cube, found[1]))
        for x, y, z in triples_of(sizes):
            signs, answer = told_three(found[1], x, y, z)
            check_same(self, answer, cube[x][y][z])
            self.assertLessEqual(len(signs), depth)

    def test_all_alike(self):
        for sizes in SMALL:
            for answer in (0, 7, 99):
                cube = cube_from(sizes, [answer] * 8)
                self.check_told(cube, 0)
                check_same(self, fewest_three(cube), (0, ("end", answer)))

    def test_all_unlike(self):
        depths = {1: 0, 2: 1, 4: 2, 8: 3}
        for sizes in SMALL:
            a, b, c = sizes
            self.check_told(cube_from(sizes, list(range(92, 100))), depths[a * b * c])

    def test_well_known_ones(self):
        # Who sees two numbers tells in one sign whether they are the same: then one more tells it with the third.
        odd = cube_from((2, 2, 2), [(x + y + z) % 2 for x, y, z in triples_of((2, 2, 2))])
        self.check_told(odd, 2)
        self.check_told(cube_from((2, 2, 2), [x * y * z for x, y, z in triples_of((2, 2, 2))]), 2)
        self.check_told(cube_from((2, 2, 2), [x * y for x, y, z in triples_of((2, 2, 2))]), 1)
        self.check_told(cube_from((2, 2, 2), [y ^ z for x, y, z in triples_of((2, 2, 2))]), 1)
        self.check_told(cube_from((2, 2, 2), [int(x == z) for x, y, z in triples_of((2, 2, 2))]), 1)

    def test_one_who_sees_all_tells_it(self):
        for sizes in ((1, 2, 2), (2, 1, 2), (2, 2, 1)):
            for answers in itertools.product((3, 4), repeat=4):
                self.check_told(cube_from(sizes, answers), len(set(answers)) - 1)

    def test_all_of_at_most_four_triples(self):
        for sizes in SMALL[:-1]:
            a, b, c = sizes
            for answers in itertools.product((0, 1, 2), repeat=a * b * c):
                cube = cube_from(sizes, answers)
                self.check_told(cube, least_depth(cube))

    def test_the_least_by_its_meaning(self):
        chance = Random(311)
        for answers in (2, 2, 2, 2, 3, 3, 4, 5, 8, 100):
            for _ in range(5):
                cube = a_cube(chance, (2, 2, 2), answers)
                self.check_told(cube, least_depth(cube))

    def test_cubes_with_one_other_answer(self):
        for at in range(8):
            for other in range(8):
                cube = cube_from((2, 2, 2), [int(k == at) + int(k == other) for k in range(8)])
                self.check_told(cube, least_depth(cube))

    def test_against_all_trees_of_two_signs(self):
        for sizes in ((1, 1, 2), (1, 2, 1), (2, 1, 1)):
            trees = trees_to(sizes, 2, (0, 1))
            for answers in itertools.product((0, 1), repeat=2):
                cube = cube_from(sizes, answers)
                self.check_told(cube, min(depth_of(tree) for tree in trees if tells_cube(cube, tree)))

    def test_against_all_trees_of_one_sign(self):
        trees = trees_to((2, 2, 2), 1, (0, 1))
        for answers in itertools.product((0, 1), repeat=8):
            cube = cube_from((2, 2, 2), answers)
            depths = [depth_of(tree) for tree in trees if tells_cube(cube, tree)]
            self.assertEqual(min(depths, default=2), min(fewest_three(cube)[0], 2))

    def test_three_tables_rows_columns(self):
        for sizes in itertools.product((1, 2, 3), repeat=3):
            if max(sizes) < 3:
                continue
            alike = cube_from(sizes, [5] * 27)
            check_refused(self, TooGreat, fewest_three, [alike, cube_from(sizes, list(range(27)))])
        check_refused(self, TooGreat, fewest_three, [(((0,),),) * 3, (((0,),) * 3,), (((0,) * 3,),)])

    def test_told_behind_a_refusal(self):
        cube = cube_from((2, 2, 2), list(range(8)))
        self.check_told(cube, 3)
        check_refused(self, TooGreat, fewest_three, [(((0, 0, 0),),)])
        self.check_told(cube, 3)


if __name__ == "__main__":
    unittest.main()
