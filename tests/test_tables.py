"""[4] Tables, turned about, and their parts."""

import unittest

from tellfew.tables import is_table, part_of, turned
from tests.things import check_none_of, check_same, check_true, nested, nested_dict, odd_things, some_tables


class IsTable(unittest.TestCase):

    def test_tables(self):
        for thing in (((0,),), ((99,),), ((0, 99), (1, 50)), ((1, 2, 3),), ((1,), (2,), (1,))):
            check_true(self, is_table(thing))

    def test_no_bound_is_looked_at(self):
        check_true(self, is_table(((5,),) * 13))
        check_true(self, is_table(((5,) * 13,)))
        check_true(self, is_table(tuple((k % 100,) * 70 for k in range(70))))
        check_true(self, is_table(((7,),) * 2400))

    def test_answers_that_are_none(self):
        answers = [True, False, -1, 100, 10 ** 39, -(10 ** 39), "1", "", None, (), (1,), [1], {}, {1: 1}]
        check_none_of(self, is_table, [((1, a), (2, 3)) for a in answers])
        check_none_of(self, is_table, [((1, 2), (2, a)) for a in answers])
        check_none_of(self, is_table, [((a,),) for a in answers])

    def test_rows_that_are_none(self):
        rows = [(), [1, 2], {0: 1, 1: 2}, "12", None, 12, True, (1,), (1, 2, 3), ((1, 2),), [], ""]
        check_none_of(self, is_table, [((1, 2), row) for row in rows])
        check_none_of(self, is_table, [(row, (1, 2)) for row in rows])
        check_none_of(self, is_table, [((1, 2), row, (3, 4)) for row in rows])

    def test_empty_rows(self):
        check_none_of(self, is_table, [(), ((),), ((), ()), ((), (1,)), ((1,), ())])

    def test_lists_and_dicts(self):
        check_none_of(self, is_table, [[(1, 2), (3, 4)], [[1, 2]], ([1, 2],), {0: (1,)}, {(1,): 2}, [], {}])

    def test_things_nested_deep(self):
        deep = [nested(1, 30), nested(1, 30, list), nested_dict(1, 30), nested((1,), 29), nested(((1, 2),), 28)]
        check_none_of(self, is_table, deep)
        check_none_of(self, is_table, [((1, thing), (2, 3)) for thing in deep])

    def test_of_anything(self):
        check_none_of(self, is_table, odd_things())


class Turned(unittest.TestCase):

    def test_columns_are_rows(self):
        check_same(self, turned(((1, 2, 3), (4, 5, 6))), ((1, 4), (2, 5), (3, 6)))
        check_same(self, turned(((7,),)), ((7,),))
        check_same(self, turned(((1, 2),)), ((1,), (2,)))
        check_same(self, turned(((1,), (2,))), ((1, 2),))

    def test_twice_is_itself(self):
        for table in some_tables(1, 40, most=12, answers=100) + [((3,) * 12,) * 12]:
            check_same(self, turned(turned(table)), table)
            check_true(self, is_table(turned(table)))


class PartOf(unittest.TestCase):

    TABLE = ((1, 2, 3), (4, 5, 6), (7, 8, 9))

    def test_parts(self):
        check_same(self, part_of(self.TABLE, (0, 2), (1,)), ((2,), (8,)))
        check_same(self, part_of(self.TABLE, (1,), (0, 2)), ((4, 6),))
        check_same(self, part_of(self.TABLE, (1, 2), (1, 2)), ((5, 6), (8, 9)))
        check_same(self, part_of(self.TABLE, (2,), (2,)), ((9,),))

    def test_all_of_it(self):
        for table in some_tables(2, 20, most=12, answers=100):
            rows, cols = tuple(range(len(table))), tuple(range(len(table[0])))
            check_same(self, part_of(table, rows, cols), table)

    def test_turned_about(self):
        for table in some_tables(3, 20):
            rows, cols = tuple(range(0, len(table), 2)), tuple(range(0, len(table[0]), 3))
            check_same(self, turned(part_of(table, rows, cols)), part_of(turned(table), cols, rows))


if __name__ == "__main__":
    unittest.main()
