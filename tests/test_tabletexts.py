"""[6] Tables written and read."""

import unittest

from tellfew.errors import NoText
from tellfew.tabletexts import read_table, show_table
from tests.things import check_refused, check_same, nested, odd_things, some_tables


class Written(unittest.TestCase):

    def test_texts(self):
        self.assertEqual(show_table(((0,),)), "0")
        self.assertEqual(show_table(((1, 20), (99, 4))), "1 20\n99 4")
        self.assertEqual(show_table(((1, 2, 3),)), "1 2 3")
        self.assertEqual(show_table(((1,), (10,), (0,))), "1\n10\n0")

    def test_written_and_read_back(self):
        great = (tuple(range(88, 100)),) * 12
        for table in some_tables(6, 60, most=12, answers=100) + [great]:
            check_same(self, read_table(show_table(table)), table)

    def test_all_answers(self):
        table = (tuple(range(100)),)
        self.assertEqual(show_table(table), " ".join(str(k) for k in range(100)))
        check_same(self, read_table(show_table(table)), table)


class Read(unittest.TestCase):

    def test_texts(self):
        check_same(self, read_table("7"), ((7,),))
        check_same(self, read_table("0 0\n0 10"), ((0, 0), (0, 10)))

    def test_no_bound_is_looked_at(self):
        check_same(self, read_table("\n".join(["1"] * 13)), ((1,),) * 13)
        check_same(self, read_table(" ".join(["1"] * 1000)), ((1,) * 1000,))

    def test_noughts_ahead(self):
        check_refused(self, NoText, read_table, ["00", "01", "1 02", "1\n03", "010", "1 00"])

    def test_blanks(self):
        check_refused(self, NoText, read_table, ["1  2", " 1", "1 ", "1 2\n 3 4", "1 2 \n3 4", "1 2\n3  4", " ", "  "])

    def test_line_ends(self):
        texts = ["1\n", "\n1", "1\n\n2", "\n", "1\r\n2", "1\r2", "1 2\r", "1 \n2", "1\n 2"]
        texts += ["1\x0b2", "1\x0c2", "1\x1c2", "1\x852"]
        check_refused(self, NoText, read_table, texts)

    def test_rows_of_unlike_lengths(self):
        check_refused(self, NoText, read_table, ["1 2\n3", "1\n2 3", "1 2\n3 4\n5", "1 2\n3 4 5"])

    def test_answers_of_three_figures(self):
        check_refused(self, NoText, read_table, ["100", "1 100", "999\n1", "1" * 2000])

    def test_signs_ahead_and_other_signs(self):
        texts = ["+1", "-1", "-0", "1 +2", "1_0", "1.0", "1,2", "1\t2", "\t1", "1\t"]
        texts += ["a", "1a", "0x1", "1e1", "()", "1;2"]
        check_refused(self, NoText, read_table, texts)

    def test_figures_of_other_writings(self):
        check_refused(self, NoText, read_table, ["\u0661", "\u00b2", "\uff11", "1\u00a02", "1\u20282"])

    def test_empty(self):
        check_refused(self, NoText, read_table, [""])

    def test_no_texts(self):
        things = [((1, 2), (3, 4)), ("1 2",), ["1"], [1], {"1": 1}, {1: "1"}, nested("1", 30), nested("1", 30, list), 1]
        check_refused(self, NoText, read_table, things)
        check_refused(self, NoText, read_table, odd_things())

    def test_whole_numbers_are_no_texts(self):
        check_refused(self, NoText, read_table, [0, 7, 99, True, False, None])

    def test_a_good_text_behind_a_refusal(self):
        self.assertEqual(read_table("1 2\n3 4"), ((1, 2), (3, 4)))
        for text in ("1 2\n3", "", "x", None):
            with self.assertRaises(NoText):
                read_table(text)
            self.assertEqual(read_table("1 2\n3 4"), ((1, 2), (3, 4)))


if __name__ == "__main__":
    unittest.main()
