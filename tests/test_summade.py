"""[37] Summing machines that are made of a question."""

import unittest
from random import Random

from tellfew.factors import factors
from tellfew.machines import machine_of
from tellfew.questions import cut
from tellfew.ranks import ranked
from tellfew.summade import summing_of
from tellfew.summing import is_summing, sizes_of, sum_cut, summed, worth
from tests.things import (PRIMES, a_question, check_same, check_true, some_questions, well_known_questions,
                          words_of_signs)
from tests.test_summing import some_summing


class SummingOf(unittest.TestCase):

    def check_made(self, question, p):
        n, text = question
        machine = summing_of(question, p)
        check_true(self, is_summing(n, p, machine))
        check_same(self, [worth(p, machine, word) for word in words_of_signs(n)], [int(sign) for sign in text])
        ranks = tuple(len(ranked(cut(question, k), p)[0]) for k in range(n + 1))
        check_same(self, sizes_of(machine), ranks)
        for k in range(n + 1):
            check_same(self, sum_cut(p, machine, k), cut(question, k))
        return ranks

    def test_no_1_at_all(self):
        for p in PRIMES:
            for n in range(1, 7):
                machine = summing_of((n, "0" * 2 ** n), p)
                check_same(self, machine, ((), (((), ()),) * n, ()))
                self.assertEqual(self.check_made((n, "0" * 2 ** n), p), (0,) * (n + 1))

    def test_1_alone(self):
        for p in (2, 3, 97):
            for n in range(1, 7):
                self.assertEqual(self.check_made((n, "1" * 2 ** n), p), (1,) * (n + 1))

    def test_each_of_one_and_two_signs(self):
        for n in (1, 2):
            for answers in range(2 ** 2 ** n):
                for p in (2, 3, 5):
                    self.check_made((n, "{:b}".format(answers).zfill(2 ** n)), p)

    def test_one_word_alone(self):
        for n in (1, 3, 6):
            for at in range(2 ** n):
                text = "0" * at + "1" + "0" * (2 ** n - at - 1)
                self.assertEqual(self.check_made((n, text), 2), (1,) * (n + 1))

    def test_ranks_that_hang_on_the_prime(self):
        # By 2 the rows 110, 011, 101 are of rank 2, by other primes of rank 3.
        question = (4, "1100" "0110" "1010" "0000")
        self.assertEqual(self.check_made(question, 2)[2], 2)
        self.assertEqual(self.check_made(question, 3)[2], 3)
        self.assertEqual(self.check_made(question, 97)[2], 3)

    def test_by_each_prime(self):
        chance = Random(411)
        for p in PRIMES:
            self.check_made(a_question(chance, 4), p)
            self.check_made(a_question(chance, 6), p)

    def test_by_their_meaning(self):
        for question in some_questions(412, 40) + well_known_questions():
            for p in (2, 7):
                self.check_made(question, p)

    def test_the_greatest_ranks(self):
        words = words_of_signs(6)
        same = (6, "".join(str(int(word[:3] == word[3:])) for word in words))
        for p in (2, 97):
            self.assertEqual(self.check_made(same, p), (1, 2, 4, 8, 4, 2, 1))

    def test_no_greater_sizes_than_the_machine_has(self):
        for question in some_questions(413, 30):
            for p in (2, 97):
                sizes = zip(sizes_of(summing_of(question, p)), sizes_of(summed(machine_of(question))))
                self.assertTrue(all(size <= states for size, states in sizes))

    def test_no_summing_machine_with_these_worths_has_a_lesser_size(self):
        for n, p, machine in some_summing(414, 60, 3):
            worths = sum_cut(p, machine, 0)[0]
            if max(worths) < 2:
                made = summing_of((n, "".join(map(str, worths))), p)
                self.assertTrue(all(size <= other for size, other in zip(sizes_of(made), sizes_of(machine))))

    def test_factors_are_as_they_were(self):
        for question in some_questions(415, 10):
            table = cut(question, question[0] // 2)
            for p in (2, 5):
                left, right = factors(table, p)
                made = tuple(tuple(sum(a * row[j] for a, row in zip(some, right)) % p for j in range(len(table[0])))
                             for some in left)
                check_same(self, made, table)


if __name__ == "__main__":
    unittest.main()
