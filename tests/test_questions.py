"""[32] Questions and their cuts."""

import unittest

from tellfew.questions import cut, is_question
from tellfew.tables import is_table
from tests.things import (check_none_of, check_same, check_true, nested, nested_dict, odd_things, of_other_kinds,
                          some_questions, well_known_questions, with_part, words_of_signs)

QUESTION = (3, "01101001")


class IsQuestion(unittest.TestCase):

    def check_no_questions(self, things):
        check_none_of(self, is_question, things)

    def test_questions(self):
        check_true(self, is_question(QUESTION))
        for n in range(1, 7):
            for text in ("0" * 2 ** n, "1" * 2 ** n, "01" * 2 ** (n - 1), "0" * (2 ** n - 1) + "1"):
                check_true(self, is_question((n, text)))
        for question in some_questions(371, 20) + well_known_questions():
            check_true(self, is_question(question))

    def test_too_few_or_too_many_signs(self):
        self.check_no_questions([(0, ""), (0, "0"), (0, "1"), (7, "0" * 128), (7, "0" * 64), (8, "01" * 128),
                                 (10, "0" * 1024), (-1, ""), (-1, "0"), (-2, "0000"), (10 ** 39, "01"), (10 ** 39, "")])

    def test_texts_too_short_or_too_long(self):
        for n in range(1, 7):
            for many in (0, 1, 2 ** n - 1, 2 ** n + 1, 2 ** (n + 1), 2 ** (n - 1), 2000):
                self.check_no_questions([(n, "0" * many), (n, "1" * many)])

    def test_other_signs(self):
        for sign in ("2", "9", "a", "x", " ", "\n", "\t", "-", "O", "l", "/", "~", "."):
            for at in (0, 3, 7):
                self.check_no_questions([(3, QUESTION[1][:at] + sign + QUESTION[1][at + 1:])])
        self.check_no_questions([(1, "0 "), (1, " 1"), (1, "0\n"), (1, "01\n"), (2, "0 1 "), (2, "00,1"), (1, "10 ")])

    def test_a_truth_for_n(self):
        self.check_no_questions([(True, "01"), (True, "00"), (False, "0"), (False, "")])
        check_true(self, is_question((1, "01")))

    def test_other_things(self):
        for thing in ("1", "", None, (), (1,), [1], {}, "01"):
            self.check_no_questions([(thing, "01"), (1, thing)] if thing != "01" else [(thing, "01")])
        self.check_no_questions([(1, ("0", "1")), (1, ["0", "1"]), (1, (0, 1)), (1, 1), (1, 10), (2, 1010),
                                 (1, {0: "0"})])
        self.check_no_questions([[3, QUESTION[1]], {0: 3, 1: QUESTION[1]}, "3 01101001", list(QUESTION)])

    def test_parts_missing_or_too_many(self):
        self.check_no_questions([(), (3,), (QUESTION[1],), QUESTION + ("",), QUESTION[::-1], (QUESTION,), QUESTION * 2,
                                 (1, "0", "1"), (1, 1, "01")])

    def test_of_other_kinds(self):
        self.check_no_questions(of_other_kinds(QUESTION))
        self.check_no_questions(of_other_kinds((1, "10")))

    def test_of_anything(self):
        self.check_no_questions(odd_things())
        for thing in odd_things() + [nested("01", 28), nested(1, 28, list), nested_dict("0", 28)]:
            self.check_no_questions([with_part(QUESTION, (1,), thing), (thing, "01" * 5), (3, thing), (thing, thing)])


class Cut(unittest.TestCase):

    def test_all_of_one_question(self):
        check_same(self, cut(QUESTION, 0), ((0, 1, 1, 0, 1, 0, 0, 1),))
        check_same(self, cut(QUESTION, 1), ((0, 1, 1, 0), (1, 0, 0, 1)))
        check_same(self, cut(QUESTION, 2), ((0, 1), (1, 0), (1, 0), (0, 1)))
        check_same(self, cut(QUESTION, 3), ((0,), (1,), (1,), (0,), (1,), (0,), (0,), (1,)))

    def test_one_sign(self):
        for text in ("00", "01", "10", "11"):
            check_same(self, cut((1, text), 0), ((int(text[0]), int(text[1])),))
            check_same(self, cut((1, text), 1), ((int(text[0]),), (int(text[1]),)))

    def test_by_its_meaning(self):
        for n, text in some_questions(372, 25) + well_known_questions():
            answers = dict(zip(words_of_signs(n), text))
            for k in range(n + 1):
                due = tuple(tuple(int(answers[word + part]) for part in words_of_signs(n - k))
                            for word in words_of_signs(k))
                check_same(self, cut((n, text), k), due)
                check_true(self, is_table(cut((n, text), k)))

    def test_six_signs(self):
        question = (6, "0" * 63 + "1")
        for k in range(7):
            table = cut(question, k)
            self.assertEqual((len(table), len(table[0])), (2 ** k, 2 ** (6 - k)))
            check_same(self, sum(map(sum, table)), 1)
            check_same(self, table[-1][-1], 1)


if __name__ == "__main__":
    unittest.main()
