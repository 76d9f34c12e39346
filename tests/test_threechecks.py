"""[29] Papers of the fewest words of three, judged of anything."""

import itertools
import unittest
from random import Random

from tellfew.threechecks import said_parted_holds
from tellfew.threewords import said, said_parted, said_wrong
from tests.things import (a_table, check_none_of, check_same, check_true, nested, nested_dict, odd_things,
                          of_other_kinds, some_cubes, with_part)

# Three tables of three rows and two columns. At z 0: 0 and 1 are unlike at x 1, 0 and 2 at x 0 and 2, 1 and 2 at all.
CUBE = (((1, 4), (1, 4), (2, 5)), ((3, 4), (7, 4), (3, 4)), ((6, 4), (6, 5), (8, 4)))
PAPER = (0, (0, 1, 2), (1, 0, 0))


class SaidPartedHolds(unittest.TestCase):

    def check_none_holds(self, things, cube=CUBE):
        check_none_of(self, lambda thing: said_parted_holds(cube, thing), things)

    def test_what_is_told(self):
        check_same(self, said_parted(CUBE), PAPER)
        for cube in some_cubes(331, 60, 2) + [CUBE]:
            check_true(self, said_parted_holds(cube, said_parted(cube)))

    def test_by_another_hand(self):
        for xs in itertools.product((1,), (0, 2), (0, 1, 2)):
            check_true(self, said_parted_holds(CUBE, (0, (0, 1, 2), xs)))
        # At z 1 the ys 0, 1, 2 have 4 4 4, 4 4 5, 5 4 4.
        for xs in itertools.product((2,), (0,), (0, 2)):
            check_true(self, said_parted_holds(CUBE, (1, (0, 1, 2), xs)))

    def test_fewer_ys(self):
        for y in range(3):
            for z in range(2):
                check_true(self, said_parted_holds(CUBE, (z, (y,), ())))
        check_true(self, said_parted_holds(CUBE, (0, (0, 1), (1,))))
        check_true(self, said_parted_holds(CUBE, (0, (0, 2), (2,))))
        check_true(self, said_parted_holds(CUBE, (1, (1, 2), (2,))))

    def test_all_of_small_cubes(self):
        for cube in some_cubes(332, 25, 2):
            a, b, c = len(cube), len(cube[0]), len(cube[0][0])
            for z in range(-1, c + 1):
                for ys in itertools.chain.from_iterable(itertools.product(range(b), repeat=k) for k in range(4)):
                    twos = list(itertools.combinations(ys, 2))
                    for xs in itertools.product(range(a), repeat=len(twos)):
                        right = (0 <= z < c and len(ys) > 0 and all(one < other for one, other in zip(ys, ys[1:]))
                                 and all(cube[x][one][z] != cube[x][other][z] for x, (one, other) in zip(xs, twos)))
                        check_same(self, said_parted_holds(cube, (z, ys, xs)), right)

    def test_what_is_let_by_is_so(self):
        # No telling of fewer words than a paper's ys is right.
        chance = Random(333)
        for cube in some_cubes(334, 20, 2):
            a, b, c = len(cube), len(cube[0]), len(cube[0][0])
            ys = said_parted(cube)[1]
            for _ in range(40):
                many = chance.randint(1, 3)
                telling = a_table(chance, b, c, many), tuple(a_table(chance, a, c, 2) for _ in range(many))
                if said_wrong(cube, telling) == ():
                    self.assertGreaterEqual(many, len(ys))
            self.assertEqual(len(said(cube)[1]), len(ys))

    def test_xs_at_which_they_are_alike(self):
        self.check_none_holds([(0, (0, 1, 2), xs) for xs in itertools.product((0, 1, 2), repeat=3)
                               if xs[0] != 1 or xs[1] == 1])
        self.check_none_holds([(0, (0, 1), (0,)), (0, (0, 1), (2,)), (0, (0, 2), (1,)), (1, (0, 1), (0,)),
                               (1, (0, 1), (1,)), (1, (1, 2), (1,)), (1, (0, 2), (2,))])

    def test_z_that_is_none(self):
        for z in (2, 3, -1, -2, 10 ** 39, True, False, None, "0", "", (), (0,), [0], {}):
            self.check_none_holds([(z, (0, 1, 2), (2, 0, 0)), (z, (0,), ())])
        self.check_none_holds([(1,) + PAPER[1:]])

    def test_ys_that_do_not_rise(self):
        self.check_none_holds([(0, (1, 0), (1,)), (0, (0, 0), (1,)), (0, (1, 1), (0,)), (0, (0, 2, 1), (0, 1, 0)),
                               (0, (2, 1, 0), (0, 0, 1)), (0, (0, 1, 1), (1, 1, 0)), (0, (0, 0, 1), (1, 1, 1))])

    def test_no_ys(self):
        self.check_none_holds([(0, (), ()), (1, (), ()), (0, (), (0,)), (0, (), (0, 0, 0))])

    def test_numbers_of_no_y_or_x(self):
        self.check_none_holds([(0, (0, 3), (0,)), (0, (-1, 0), (0,)), (0, (3,), ()), (0, (-1,), ()),
                               (0, (10 ** 39,), ())])
        self.check_none_holds([(0, (0, 1), (x,)) for x in (3, -1, -2, -3, 10 ** 39)])

    def test_too_few_or_too_many_xs(self):
        z, ys, xs = PAPER
        self.check_none_holds([(z, ys, other) for other in ((), xs[:1], xs[:2], xs + (0,), xs + xs)])
        self.check_none_holds([(0, (0,), (0,)), (0, (0, 1), ()), (0, (0, 1), (1, 1))])

    def test_truths_for_numbers(self):
        self.check_none_holds([(False, (0, 2), (0,)), (0, (False, 2), (0,)), (0, (0, True), (1,)),
                               (0, (0, 2), (False,)),
                               (0, (0, 1), (True,)), (True, (1, 2), (2,)), (0, (True,), ())])

    def test_parts_missing_or_too_many(self):
        self.check_none_holds([(), PAPER[:1], PAPER[:2], PAPER[1:], PAPER + ((),), PAPER[::-1], (PAPER,),
                               PAPER + PAPER])
        # A paper of parted rows, without z.
        self.check_none_holds([((0,), ()), ((0, 1), (0,))])

    def test_of_other_kinds(self):
        self.check_none_holds(of_other_kinds(PAPER))
        self.check_none_holds(of_other_kinds((0, (0,), ())))

    def test_of_anything(self):
        self.check_none_holds(odd_things())
        self.check_none_holds(odd_things(), (((0,),),))
        for thing in odd_things() + [nested(0, 28), nested(0, 28, list), nested_dict(0, 28)]:
            self.check_none_holds([with_part(PAPER, (1,), thing), with_part(PAPER, (2,), thing)])
        for thing in (nested(0, 28), nested_dict(0, 28), nested((0, 1), 27)):
            self.check_none_holds([with_part(PAPER, way, thing) for way in ((0,), (1, 0), (2, 0))])

    def test_a_paper_of_another_cube(self):
        self.check_none_holds([PAPER], (((1, 1),) * 3,) * 3)
        self.check_none_holds([PAPER], tuple(table[:2] for table in CUBE))
        self.check_none_holds([PAPER], CUBE[:1])
        check_true(self, said_parted_holds(tuple(tuple(row[:1] for row in table) for table in CUBE), PAPER))


if __name__ == "__main__":
    unittest.main()
