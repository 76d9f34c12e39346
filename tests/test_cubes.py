"""[25] Cubes."""

import unittest

from tellfew.cubes import is_cube
from tests.things import check_none_of, check_true, nested, nested_dict, odd_things, of_other_kinds, with_part

CUBE = (((1, 2, 3), (4, 5, 6)), ((7, 8, 9), (0, 99, 1)))


class IsCube(unittest.TestCase):

    def check_no_cubes(self, things):
        check_none_of(self, is_cube, things)

    def test_cubes(self):
        check_true(self, is_cube(CUBE))
        for a in (1, 2, 3):
            for b in (1, 2, 3):
                for c in (1, 2, 3):
                    check_true(self, is_cube((((0,) * c,) * b,) * a))
                    check_true(self, is_cube((((99,) * c,) * b,) * a))

    def test_too_many_tables_rows_columns(self):
        for a, b, c in ((4, 1, 1), (1, 4, 1), (1, 1, 4), (4, 3, 3), (3, 4, 3), (3, 3, 4), (12, 12, 12), (5, 1, 3)):
            self.check_no_cubes([(((0,) * c,) * b,) * a])

    def test_none_at_all(self):
        self.check_no_cubes([(), ((),), (((),),), ((), ()), (((), ()), ((), ())), (((1,),), ()), ((), ((1,),))])

    def test_tables_of_sizes_that_differ(self):
        self.check_no_cubes([(((1,),), ((1, 2),)), (((1, 2),), ((1,),)), (((1,),), ((1,), (2,))),
                             (((1,), (2,)), ((1,),)), (((1, 2),), ((1,), (2,))), (((1,), (2,)), ((1, 2),))])
        self.check_no_cubes([(((1, 2), (3,)),), (((1,), (2, 3)),), (((1, 2), ()),), (((1,),), ((2,),), ((3, 4),))])
        self.check_no_cubes([CUBE + (((1, 2, 3),),), CUBE + (((1, 2), (3, 4)),), CUBE + (((1, 2, 3),) * 3,)])

    def test_answers_that_are_none(self):
        for answer in (-1, 100, True, False, None, "1", "", (), (1,), [1], {}, 10 ** 39, -(10 ** 39)):
            for way in ((0, 0, 0), (0, 1, 2), (1, 0, 1), (1, 1, 2)):
                self.check_no_cubes([with_part(CUBE, way, answer)])

    def test_of_other_kinds(self):
        self.check_no_cubes(of_other_kinds(CUBE))
        self.check_no_cubes(of_other_kinds((((1,),),)))
        self.check_no_cubes([CUBE[0], CUBE[0][0], ((1, 2), (3, 4)), (CUBE,)])

    def test_of_anything(self):
        cubes = ((((1,),),), (((1,), (2,)),))
        for thing in cubes:
            check_true(self, is_cube(thing))
        self.check_no_cubes([thing for thing in odd_things() if thing not in cubes])
        for thing in [nested(1, 27), nested_dict(1, 27), nested((1, 2), 26, list), nested(CUBE, 20), "123"]:
            self.check_no_cubes([with_part(CUBE, way, thing) for way in ((), (0,), (1,), (0, 0), (1, 1), (1, 1, 1))])
        self.check_no_cubes([(((1,),),) * 1600, (((1,),) * 1600,), (((1,) * 4900,),)])


if __name__ == "__main__":
    unittest.main()
