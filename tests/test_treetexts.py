"""[9] Trees written and read."""

import unittest
from random import Random

from tellfew.errors import NoText
from tellfew.treetexts import read_tree, show_tree
from tellfew.trees import depth_of, is_tree
from tests.things import (a_great_tree, a_long_tree, a_tree, check_refused, check_same, check_true, knots_of, nested,
                          nested_dict, odd_things)

# For three rows and two columns.
TEXT = "row 011 col 10 end 7 end 8 end 40"
TREE = ("row", (0, 1, 1), ("col", (1, 0), ("end", 7), ("end", 8)), ("end", 40))


class Written(unittest.TestCase):

    def test_texts(self):
        self.assertEqual(show_tree(("end", 3)), "end 3")
        self.assertEqual(show_tree(("end", 0)), "end 0")
        self.assertEqual(show_tree(("end", 99)), "end 99")
        self.assertEqual(show_tree(TREE), TEXT)
        self.assertEqual(show_tree(("row", (1,), ("end", 1), TREE)), "row 1 end 1 " + TEXT)
        self.assertEqual(show_tree(("col", (0, 0), TREE, ("end", 2))), "col 00 " + TEXT + " end 2")

    def test_written_and_read_back(self):
        chance = Random(41)
        for _ in range(80):
            m, n = chance.randint(1, 12), chance.randint(1, 12)
            tree = a_tree(chance, m, n, chance.randrange(9))
            check_same(self, read_tree(m, n, show_tree(tree)), tree)

    def test_great_ones(self):
        for tree in (a_great_tree(12, 12), a_great_tree(12, 1), a_long_tree(12, 12, 10)):
            n = 1 if tree == a_great_tree(12, 1) else 12
            check_same(self, read_tree(12, n, show_tree(tree)), tree)
            self.assertEqual(depth_of(tree), 10)
        self.assertEqual(knots_of(read_tree(12, 12, show_tree(a_great_tree(12, 12)))), 200)


class Read(unittest.TestCase):

    def check_no_texts(self, texts, m=3, n=2):
        check_refused(self, NoText, lambda text: read_tree(m, n, text), texts)

    def test_texts(self):
        check_same(self, read_tree(3, 2, TEXT), TREE)
        check_same(self, read_tree(3, 2, "end 0"), ("end", 0))
        check_same(self, read_tree(3, 2, "col 01 end 1 row 111 end 2 end 3"),
                   ("col", (0, 1), ("end", 1), ("row", (1, 1, 1), ("end", 2), ("end", 3))))
        check_true(self, is_tree(3, 2, read_tree(3, 2, TEXT)))

    def test_a_sign_too_few_or_too_many(self):
        self.check_no_texts(["row 01 end 1 end 2", "row 0110 end 1 end 2", "col 1 end 1 end 2", "col 101 end 1 end 2"])
        self.check_no_texts(["row 011 col 1 end 7 end 8 end 40", "row 011 end 1 col 101 end 7 end 8"])
        self.check_no_texts(["row  end 1 end 2", "col  end 1 end 2", "row end 1 end 2"])

    def test_other_signs(self):
        self.check_no_texts(["row 012 end 1 end 2", "row 01x end 1 end 2", "row 0-1 end 1 end 2", "col 1. end 1 end 2"])
        self.check_no_texts(["row 0,1 end 1 end 2", "col +1 end 1 end 2", "row 0\u0661\u0661 end 1 end 2"])

    def test_a_word_too_few_or_too_many(self):
        words = TEXT.split(" ")
        for at in range(len(words)):
            self.check_no_texts([" ".join(words[:at] + words[at + 1:]), " ".join(words[:at] + words[at:at + 1] * 2
                                                                                 + words[at + 1:])])
        self.check_no_texts([" ".join(words[:at]) for at in range(len(words))])
        self.check_no_texts([TEXT + " end 1", "end 1 " + TEXT, TEXT + " end", TEXT + " 1", TEXT + " " + TEXT])
        self.check_no_texts(["end", "end 1 end 2", "end 1 2", "row 011", "row 011 end 1", "row 011 end 1 end 2 end 3"])
        self.check_no_texts(["1", "row", "end end", "1 end", "end 1 row 011", "end 1 end 2 row 011"])

    def test_a_blank_more(self):
        self.check_no_texts([" " + TEXT, TEXT + " ", " ", "", "  ", "end  1", "end 1 ", " end 1"])
        for at, sign in enumerate(TEXT):
            if sign == " ":
                self.check_no_texts([TEXT[:at] + " " + TEXT[at:]])

    def test_great_letters(self):
        self.check_no_texts(["End 1", "END 1", "Row 011 end 1 end 2", "ROW 011 end 1 end 2", "row 011 end 1 END 2"])
        self.check_no_texts(["Col 01 end 1 end 2", "COL 01 end 1 end 2"])

    def test_other_words(self):
        self.check_no_texts(["ende 1", "en 1", "column 01 end 1 end 2", "rows 011 end 1 end 2", "knot 011 end 1 end 2"])
        self.check_no_texts(["011 row end 1 end 2", "1 end", "('end', 1)", "end,1", "end(1)"])

    def test_noughts_ahead(self):
        self.check_no_texts(["end 00", "end 01", "end 007", "row 011 end 01 end 2", "row 011 end 1 end 02"])

    def test_line_ends_and_tabs(self):
        self.check_no_texts(["end 1\n", "\nend 1", "end\n1", "end\t1", "end 1\t", "\tend 1", "end 1\r", "end 1\r\n"])
        self.check_no_texts([TEXT.replace(" ", "\n"), TEXT + "\n", TEXT.replace(" end", "\nend"), "end 1\n "])
        self.check_no_texts(["row 011\nend 1 end 2", "row 01\n end 1 end 2", "row \n011 end 1 end 2"])

    def test_answers_that_are_none(self):
        self.check_no_texts(["end 100", "end 999", "end -1", "end +1", "end x", "end 1.0", "end ", "end 1_0"])
        self.check_no_texts(["end \u0661", "end \u00b2"])
        self.check_no_texts(["row 011 end 100 end 2", "row 011 end 1 end 200", "end " + "9" * 1990])

    def test_right_for_other_sizes(self):
        for m, n in ((2, 2), (4, 2), (3, 1), (3, 3), (2, 3), (1, 1), (12, 12)):
            self.check_no_texts([TEXT], m, n)
        check_same(self, read_tree(3, 12, "row 011 end 1 end 2"), ("row", (0, 1, 1), ("end", 1), ("end", 2)))
        self.check_no_texts(["row 011 end 1 end 2"], 2, 3)
        self.check_no_texts(["col 011 end 1 end 2"], 3, 2)
        check_same(self, read_tree(9, 9, "end 1"), ("end", 1))

    def test_no_texts(self):
        self.check_no_texts([TREE, ("end", 3), [TEXT], (TEXT,), {TEXT: 1}, nested(TEXT, 30), nested(TEXT, 30, list)])
        self.check_no_texts([nested_dict(TEXT, 30), TEXT.split(" "), 3, None, True])

    def test_of_anything(self):
        self.check_no_texts(odd_things())
        self.check_no_texts(odd_things(), 1, 1)

    def test_texts_thirty_deep(self):
        for k in range(31):
            left = "row 010 " * k + "end 5" + " end 6" * k
            right = "col 01 end 5 " * k + "end 6"
            check_same(self, depth_of(read_tree(3, 2, left)), k)
            check_same(self, depth_of(read_tree(3, 2, right)), k)
            self.assertEqual(show_tree(read_tree(3, 2, left)), left)
            self.assertEqual(show_tree(read_tree(3, 2, right)), right)
            self.check_no_texts([left + " end 5", right + " end 6", left[:-1], right[:-1] + "100"])

    def test_a_good_text_behind_a_refusal(self):
        for text in (TEXT + " ", "row 011 end 1", None, "end 1 end 2"):
            with self.assertRaises(NoText):
                read_tree(3, 2, text)
            check_same(self, read_tree(3, 2, TEXT), TREE)

    def test_just_what_is_so_written(self):
        # Whatever is read is written as it was.
        chance = Random(42)
        read = 0
        for _ in range(3000):
            words = chance.choice(["end 1", "end 2 end 3", TEXT, "row 011 end 1 end 2"]).split(" ")
            words[chance.randrange(len(words))] = chance.choice(["end", "row", "col", "011", "10", "1", "", "12"])
            try:
                tree = read_tree(3, 2, " ".join(words))
            except NoText:
                continue
            read += 1
            check_true(self, is_tree(3, 2, tree))
            self.assertEqual(show_tree(tree), " ".join(words))
        self.assertGreater(read, 50)


if __name__ == "__main__":
    unittest.main()
