"""[13] Papers of parted rows."""

import unittest

from tellfew.likes import unlike_rows
from tellfew.parting import parted, parted_holds
from tellfew.words import one_word
from tests.things import check_none_of, check_same, check_true, nested, nested_dict, odd_things, some_tables

TABLE = ((1, 1, 1), (1, 2, 1), (1, 1, 1), (3, 2, 1), (1, 2, 4))
PAPER = ((0, 1, 3, 4), (1, 0, 1, 0, 2, 0))


class Parted(unittest.TestCase):

    def test_all_unlike_rows_with_the_first_columns(self):
        check_same(self, parted(TABLE), PAPER)
        check_same(self, parted(((1, 2), (2, 1))), ((0, 1), (0,)))
        check_same(self, parted(((1, 2), (1, 1))), ((0, 1), (1,)))

    def test_one_unlike_row(self):
        check_same(self, parted(((7,),)), ((0,), ()))
        check_same(self, parted(((7, 8),) * 12), ((0,), ()))

    def test_by_its_meaning(self):
        great = tuple(tuple(int(i == j) for j in range(12)) for i in range(12))
        for table in some_tables(71, 60, most=8, answers=2) + [great]:
            rows = unlike_rows(table)
            cols = []
            for at, i in enumerate(rows):
                for k in rows[at + 1:]:
                    cols.append([j for j in range(len(table[0])) if table[i][j] != table[k][j]][0])
            check_same(self, parted(table), (rows, tuple(cols)))
            check_true(self, parted_holds(table, parted(table)))
            self.assertEqual(len(parted(table)[0]), len(one_word(table)[1]))

    def test_sixty_four_rows(self):
        table = tuple(tuple(k >> at & 1 for at in range(6)) for k in range(64))
        check_true(self, parted_holds(table, parted(table)))
        self.assertEqual(len(parted(table)[1]), 64 * 63 // 2)


class PartedHolds(unittest.TestCase):

    def check_none_holds(self, things, table=TABLE):
        check_none_of(self, lambda thing: parted_holds(table, thing), things)

    def test_one_row_alone(self):
        for i in range(5):
            check_true(self, parted_holds(TABLE, ((i,), ())))
        check_true(self, parted_holds(((7,),), ((0,), ())))
        self.check_none_holds([((0,), (0,)), ((0,), (1, 2)), ((5,), ()), ((-1,), ()), ((True,), ()), ((), ())])

    def test_any_rows_and_columns_that_part_them(self):
        check_true(self, parted_holds(TABLE, PAPER))
        check_true(self, parted_holds(TABLE, ((0, 3), (0,))))
        check_true(self, parted_holds(TABLE, ((0, 3), (1,))))
        check_true(self, parted_holds(TABLE, ((1, 2, 3), (1, 0, 1))))
        check_true(self, parted_holds(TABLE, ((2, 4), (2,))))

    def test_columns_in_which_two_are_alike(self):
        self.check_none_holds([((0, 3), (2,)), ((0, 2), (0,)), ((0, 2), (1,)), ((0, 2), (2,)), ((1, 3), (1,))])
        for at in range(6):
            wrong = {0: 0, 1: 2, 2: 0, 3: 1, 4: 0, 5: 1}[at]
            cols = PAPER[1][:at] + (wrong,) + PAPER[1][at + 1:]
            self.check_none_holds([(PAPER[0], cols)])

    def test_the_order_of_twos(self):
        # First and second, first and third, second and third: just one order of these columns parts them.
        table = ((0, 0), (1, 0), (1, 1))
        check_true(self, parted_holds(table, ((0, 1, 2), (0, 1, 1))))
        check_true(self, parted_holds(table, ((0, 1, 2), (0, 0, 1))))
        self.check_none_holds([((0, 1, 2), (1, 0, 1)), ((0, 1, 2), (0, 1, 0)), ((0, 1, 2), (1, 1, 0))], table)
        table = ((0, 0, 0, 0), (1, 0, 0, 0), (0, 1, 0, 0), (1, 1, 1, 0))
        check_true(self, parted_holds(table, ((0, 1, 2, 3), (0, 1, 2, 0, 1, 2))))
        self.check_none_holds([((0, 1, 2, 3), (0, 1, 0, 2, 1, 2)), ((0, 1, 2, 3), (2, 1, 0, 2, 1, 0))], table)

    def test_rows_that_do_not_rise(self):
        self.check_none_holds([((3, 0), (0,)), ((0, 0), (0,)), ((0, 0), (1,)), ((1, 1, 3), (0, 0, 0)), ((3, 3), (0,))])
        self.check_none_holds([((0, 3, 1), (0, 1, 0)), ((0, 1, 1), (1, 1, 0)), ((1, 0), (1,))])

    def test_numbers_of_no_row_or_column(self):
        self.check_none_holds([((0, 5), (0,)), ((-1, 0), (0,)), ((-2, 0), (0,)), ((0, 10 ** 39), (0,))])
        self.check_none_holds([((0, 3), (3,)), ((0, 3), (-2,)), ((0, 3), (-3,)), ((0, 3), (10 ** 39,))])

    def test_too_few_or_too_many_columns(self):
        self.check_none_holds([((0, 3), ()), ((0, 3), (0, 0)), (PAPER[0], PAPER[1][:-1]), (PAPER[0], PAPER[1] + (0,))])
        self.check_none_holds([((0, 1, 3), (1, 0)), ((0, 1, 3), (1, 0, 0, 0)), (PAPER[0], ())])

    def test_truths_for_numbers(self):
        self.check_none_holds([((False, 3), (0,)), ((0, True), (1,)), ((0, 3), (False,)), ((0, 3), (True,))])

    def test_other_things_for_numbers(self):
        for thing in ("0", "", None, (), (0,), [0], {}):
            self.check_none_holds([((thing, 3), (0,)), ((0, thing), (0,)), ((0, 3), (thing,)), ((thing,), ())])

    def test_lists_and_dicts(self):
        self.check_none_holds([list(PAPER), ([0, 3], (0,)), ((0, 3), [0]), ((0,), []), ([0], ()), {0: 1, 1: 2}])
        self.check_none_holds([({0: 0, 1: 3}, (0,)), ((0, 3), {0: 0}), ((0,), {}), ((0,), ""), ((0,), None), ("0", ())])

    def test_parts_missing_or_too_many(self):
        self.check_none_holds([(), PAPER[:1], PAPER + ((),), PAPER[::-1], (PAPER,), ((), ()), ((), (0,)), ((0, 3), 0)])

    def test_of_anything(self):
        self.check_none_holds(odd_things())
        self.check_none_holds(odd_things(), ((0,),))
        for thing in [nested(0, 28), nested_dict(0, 28), nested((0, 3), 27, list)]:
            self.check_none_holds([(thing, (0,)), ((0, 3), thing), ((0,), thing), (thing, ())])

    def test_a_paper_of_another_table(self):
        self.check_none_holds([PAPER], ((1, 1, 1),) * 5)
        self.check_none_holds([PAPER], TABLE[:4])
        self.check_none_holds([PAPER], tuple(row[:2] for row in TABLE))


if __name__ == "__main__":
    unittest.main()
