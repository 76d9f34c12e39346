"""[3] The whole: what is told by different parts of the program, against each other; [2] for the greatest inputs."""

import math
import unittest
from fractions import Fraction
from random import Random

from tellfew.bothtold import both_draws, both_tellings, both_trees
from tellfew.desk import Desk
from tellfew.drawn import worst, wrong_in
from tellfew.fairchecks import fair_words_holds
from tellfew.fairwords import fair_words
from tellfew.fewest import fewest
from tellfew.fewestthree import fewest_three
from tellfew.findings import finding_holds
from tellfew.gamechecks import fair_holds
from tellfew.games import fair
from tellfew.leastwrong import least_wrong
from tellfew.likes import numbered, unlike_rows
from tellfew.machines import is_machine, machine_of, reads, words_at
from tellfew.own import own_of, own_wrong
from tellfew.parting import parted, parted_holds
from tellfew.questions import cut
from tellfew.rankchecks import ranked_holds
from tellfew.ranks import ranked
from tellfew.shutting import is_shut
from tellfew.stands import Stand
from tellfew.statechecks import states_holds
from tellfew.states import states
from tellfew.summade import summing_of
from tellfew.summing import is_summing, sizes_of, sum_cut, summed, worth
from tellfew.tables import turned
from tellfew.telling import ends_of, tells, told
from tellfew.threes import ends_of_three
from tellfew.threewords import is_said, said, said_parted, said_wrong
from tellfew.together import added, both, times
from tellfew.trees import depth_of
from tellfew.treewords import words_of
from tellfew.words import is_telling, one_word, wrong_pairs
from tests.test_machines import a_great_machine
from tests.test_summing import a_great_summing
from tests.things import (PRIMES, a_great_tree, a_table, a_tree, check_same, check_true, some_cubes, some_draws,
                          some_questions, some_tables, well_known_questions, with_part, words_of_signs)


def rank_of(table, p):
    return len(ranked(table, p)[0])


def told_table(tree, m, n):
    return tuple(tuple(told(tree, i, j)[1] for j in range(n)) for i in range(m))


def as_telling(tree, m, n):
    """The words of a tree, numbered as they come, as a telling of what it tells."""
    words = words_of(tree, m)
    table = told_table(tree, m, n)
    return numbered(words), tuple(table[i] for i in unlike_rows(words))


class Tables(unittest.TestCase):

    def test_words_and_papers(self):
        for table in some_tables(471, 60, 6, 2):
            words = one_word(table)
            self.assertEqual(wrong_pairs(table, words), ())
            self.assertEqual(len(words[1]), len(parted(table)[0]))
            self.assertEqual(len(words[1]), len(unlike_rows(table)))

    def test_the_words_of_a_tree_are_a_right_telling(self):
        chance = Random(472)
        for _ in range(60):
            m, n = chance.randint(1, 8), chance.randint(1, 8)
            tree = a_tree(chance, m, n, 5, answers=4)
            table, telling = told_table(tree, m, n), as_telling(tree, m, n)
            check_true(self, is_telling(m, n, telling))
            check_same(self, wrong_pairs(table, telling), ())
            self.assertGreaterEqual(len(telling[1]), len(parted(table)[0]))

    def test_ranks_words_ends_and_depths(self):
        chance = Random(473)
        for _ in range(60):
            m, n = chance.randint(1, 6), chance.randint(1, 6)
            tree = a_tree(chance, m, n, 5, answers=4)
            table = told_table(tree, m, n)
            for p in (0, 2, 3, 97):
                rank = rank_of(table, p)
                ends = [answer for _, _, answer in ends_of(tree, m, n) if (answer if p == 0 else answer % p) != 0]
                self.assertLessEqual(rank, len(ends))
                self.assertLessEqual(rank, min(len(unlike_rows(table)), len(unlike_rows(turned(table)))))
                self.assertLessEqual(rank, rank_of(table, 0))
                check_same(self, rank_of(turned(table), p), rank)
                if p > 0:
                    rows = tuple(tuple(answer % p for answer in row) for row in table)
                    self.assertLessEqual(len(unlike_rows(rows)), p ** rank)

    def test_the_fewest_signs(self):
        for table in some_tables(474, 40, 4):
            depth, tree = fewest(table)
            check_true(self, tells(table, tree))
            # Who knows the row could tell its number, who knows the column then the answer.
            words, answers = len(unlike_rows(table)), len({answer for row in table for answer in row})
            self.assertLessEqual(depth, math.ceil(math.log2(words)) + math.ceil(math.log2(answers)))
            self.assertGreaterEqual(2 ** depth, max(rank_of(table, 0), answers))
            self.assertGreaterEqual(2 ** 2 ** depth, words)

    def test_two_at_once(self):
        chance = Random(475)
        for _ in range(25):
            m, n, k, l = chance.choice([(2, 3, 3, 4), (1, 4, 4, 3), (4, 2, 3, 2), (3, 3, 3, 3)])
            trees = a_tree(chance, m, n, 3, answers=3), a_tree(chance, k, l, 3, answers=3)
            one, other = told_table(trees[0], m, n), told_table(trees[1], k, l)
            table, tree = both(one, other), both_trees(*trees, (m, n, k, l))
            self.assertEqual(wrong_pairs(table, both_tellings(one_word(one), one_word(other))), ())
            self.assertEqual(len(parted(table)[0]), len(parted(one)[0]) * len(parted(other)[0]))
            check_true(self, finding_holds(("tells", table, tree, depth_of(trees[0]) + depth_of(trees[1]))))
            for p in (0, 2, 5):
                check_same(self, rank_of(times(one, other), p), rank_of(one, p) * rank_of(other, p))
                self.assertLessEqual(rank_of(added(one, other, 19), p), rank_of(one, p) + rank_of(other, p))


class Draws(unittest.TestCase):

    def test_each_game_has_one_value(self):
        chance = Random(476)
        for game in some_tables(477, 30, 4, 5):
            value, asked, drawn = fair(game)
            for _ in range(40):
                top, bottom = chance.randint(0, 8), chance.randint(1, 4)
                if math.gcd(top, bottom) > 1:
                    continue
                shares = [tuple(chance.randint(0, 3) for _ in range(many)) for many in (len(game), len(game[0]))]
                for paper in (((top, bottom), *shares), ((top, bottom), asked, drawn), (value, *shares)):
                    if fair_holds(game, paper):
                        check_same(self, paper[0], value)

    def test_no_draws_have_a_lesser_share_at_every_pair(self):
        chance = Random(478)
        for table in some_tables(479, 12, 3, 2):
            for many in (1, 2):
                top, bottom = fair_words(table, many)[0]
                for _ in range(20):
                    draws = some_draws(chance, table, chance.randint(1, 4), many, 2)
                    total = sum(weight for weight, _ in draws)
                    self.assertGreaterEqual(Fraction(worst(table, draws)[0], total), Fraction(top, bottom))
                self.assertEqual((top, bottom) == (0, 1), len(unlike_rows(table)) <= many)

    def test_own_ones_are_as_often_wrong(self):
        for table in some_tables(480, 15, 3, 2):
            value, draws, _ = fair_words(table, 1)
            total = sum(weight for weight, _ in draws)
            wrong = own_wrong(table, own_of(draws))
            for due, row in zip(wrong_in(table, draws), wrong):
                self.assertEqual([Fraction(weight, total) for weight in due], [Fraction(*part) for part in row])
            self.assertEqual(max(Fraction(*part) for row in wrong for part in row), Fraction(*value))

    def test_both_draws_are_right_as_often_as_each_multiplied(self):
        one, other = ((0, 1), (1, 0)), ((0,), (1,), (2,))
        draws = both_draws(fair_words(one, 1)[1], fair_words(other, 1)[1])
        total = sum(weight for weight, _ in draws)
        weight = worst(both(one, other), draws)[0]
        self.assertEqual(1 - Fraction(weight, total), Fraction(1, 2) * Fraction(1, 3))

    def test_what_papers_of_fair_words_say_is_so(self):
        chance = Random(481)
        for table in some_tables(482, 10, 3, 2):
            value = fair_words(table, 1)[0]
            _, draws, weights = fair_words(table, 1)
            for _ in range(20):
                other = some_draws(chance, table, 2, 1, 2)
                for paper in (((chance.randint(0, 3), chance.randint(1, 4)), draws, weights), (value, other, weights),
                              ((chance.randint(0, 3), chance.randint(1, 4)), other, weights)):
                    if fair_words_holds(table, 1, paper):
                        self.assertEqual(paper[0], value)


class Three(unittest.TestCase):

    def test_words_and_signs(self):
        for cube in some_cubes(483, 30, 2):
            telling = said(cube)
            check_same(self, said_wrong(cube, telling), ())
            self.assertEqual(len(telling[1]), len(said_parted(cube)[1]))
            sizes = len(cube), len(cube[0]), len(cube[0][0])
            if max(sizes) > 2:
                continue
            # 0 could tell the word, then 1 the answer.
            depth, tree = fewest_three(cube)
            answers = {answer for table in cube for row in table for answer in row}
            self.assertLessEqual(depth, len(telling[1]) - 1 + len(answers) - 1)
            self.assertGreaterEqual(2 ** depth, len(answers))
            for triples, _ in ends_of_three(tree, sizes):
                check_true(self, is_shut(triples))

    def test_a_cube_of_one_x_is_known_by_0(self):
        # Where 1 knows x anyway, 0's word is of the row y: as many as the table of rows y at the worst z.
        for table in some_tables(484, 20, 3, 2):
            cube = (table,)
            most = max(len({row[z] for row in table}) for z in range(len(table[0])))
            self.assertEqual(len(said(cube)[1]), most)


class Machines(unittest.TestCase):

    def test_states_words_ranks_sizes(self):
        for question in some_questions(485, 30) + well_known_questions():
            n = question[0]
            machine, paper = machine_of(question), states(question)
            counts = [len(layer) for layer in machine[0]] + [len(machine[1])]
            check_true(self, states_holds(question, paper))
            for p in (2, 3, 97):
                sizes = sizes_of(summing_of(question, p))
                for k in range(n + 1):
                    table = cut(question, k)
                    self.assertEqual(counts[k], len(paper[k][0]))
                    self.assertEqual(counts[k], len(one_word(table)[1]))
                    self.assertEqual(counts[k], len(parted(table)[0]))
                    self.assertEqual(sizes[k], rank_of(table, p))
                    self.assertLessEqual(sizes[k], counts[k])
                    self.assertLessEqual(counts[k], p ** sizes[k])
                    check_true(self, ranked_holds(table, p, ranked(table, p)))

    def test_the_states_at_k_are_words_that_tell_the_cut(self):
        for question in some_questions(486, 30):
            machine = machine_of(question)
            for k in range(question[0] + 1):
                table = cut(question, k)
                words = words_at(machine, k)
                check_same(self, words, one_word(table)[0])
                check_same(self, wrong_pairs(table, (words, one_word(table)[1])), ())

    def test_a_summing_machine_made_of_a_machine_has_its_cuts(self):
        for question in some_questions(487, 15, 5):
            made = summed(machine_of(question))
            for k in range(question[0] + 1):
                check_same(self, sum_cut(7, made, k), cut(question, k))


class Stands(unittest.TestCase):

    def test_what_is_kept_is_right_behind_each_deed(self):
        chance = Random(488)
        for _ in range(10):
            stand = Stand()
            stand.put("ab", a_table(chance, 2, 3, 2))
            for _ in range(40):
                table = stand.table("ab")
                what = chance.choice(["more", "change", "change", "keep", "keep", "keep", "back"])
                if what == "more" and len(table) < 12:
                    stand.more("ab", tuple(chance.randrange(2) for _ in range(3)))
                elif what == "change":
                    stand.change("ab", (chance.randrange(len(table)), chance.randrange(3)), chance.randrange(2))
                elif what == "keep":
                    words, answers = one_word(table)
                    stand.keep("ab", (words, answers + a_table(chance, 3, 3, 2)))
                elif what == "back":
                    stand.back(chance.randint(1, stand.deeds()))
                for telling in stand.kept("ab"):
                    check_same(self, wrong_pairs(stand.table("ab"), telling), ())
                    check_true(self, is_telling(len(stand.table("ab")), 3, telling))
                check_same(self, stand.fewest("ab"), (len(parted(stand.table("ab"))[0]),
                                                      len(parted(turned(stand.table("ab")))[0])))


class Papers(unittest.TestCase):
    """Whatever paper is let by, whoever wrote it, what it says is so: papers that were told, with one thing changed."""

    def changed(self, chance, thing, parts):
        """thing with one of its numbers or texts changed to another one of the parts."""
        way = ()
        part = thing
        while isinstance(part, tuple) and part:
            at = chance.randrange(len(part))
            way, part = way + (at,), part[at]
        return with_part(thing, way, chance.choice(parts))

    def test_parted(self):
        chance = Random(489)
        for table in some_tables(490, 40, 4, 2):
            for _ in range(20):
                paper = self.changed(chance, parted(table), (0, 1, 2, 3))
                if parted_holds(table, paper):
                    self.assertLessEqual(len(paper[0]), len(one_word(table)[1]))
                    self.assertEqual(len({table[i] for i in paper[0]}), len(paper[0]))

    def test_ranked(self):
        chance = Random(491)
        for table in some_tables(492, 30, 4, 4):
            for p in (0, 2, 3):
                for _ in range(20):
                    paper = self.changed(chance, ranked(table, p), (0, 1, 2, -1, 3))
                    if ranked_holds(table, p, paper):
                        self.assertEqual(len(paper[0]), rank_of(table, p))

    def test_states(self):
        chance = Random(493)
        for question in some_questions(494, 30, 4):
            machine = machine_of(question)
            counts = [len(layer) for layer in machine[0]] + [len(machine[1])]
            parts = [word for k in range(question[0] + 1) for word in words_of_signs(k)]
            for _ in range(30):
                paper = self.changed(chance, states(question), parts)
                if states_holds(question, paper):
                    for k, (words, _) in enumerate(paper):
                        self.assertLessEqual(len(words), counts[k])
                        rows = dict(zip(words_of_signs(k), cut(question, k)))
                        self.assertEqual(len({rows[word] for word in words}), len(words))

    def test_machines(self):
        chance = Random(495)
        for question in some_questions(496, 30, 4):
            for _ in range(20):
                machine = self.changed(chance, machine_of(question), (0, 1, 2))
                finding = ("states", question, machine, states(question))
                right = is_machine(question[0], machine) and "".join(
                    str(reads(machine, word)) for word in words_of_signs(question[0])) == question[1]
                check_same(self, finding_holds(finding), right)

    def test_summing(self):
        chance = Random(497)
        for question in some_questions(498, 20, 3):
            papers = tuple(ranked(cut(question, k), 3) for k in range(question[0] + 1))
            for _ in range(20):
                machine = self.changed(chance, summing_of(question, 3), (0, 1, 2))
                right = is_summing(question[0], 3, machine) and "".join(
                    str(worth(3, machine, word)) for word in words_of_signs(question[0])) == question[1]
                check_same(self, finding_holds(("sums", question, 3, machine, papers)), right)


class Greatest(unittest.TestCase):
    """The greatest inputs that [2] lets by: each is told within a few seconds."""

    def test_tables(self):
        chance = Random(499)
        for answers in (2, 100):
            table = a_table(chance, 12, 12, answers)
            for p in (0, 2, 97):
                check_true(self, finding_holds(("rank", table, p, ranked(table, p))))
            check_true(self, finding_holds(("words", table, one_word(table), parted(table))))
            check_true(self, finding_holds(("game", table, fair(table))))

    def test_trees(self):
        tree = a_great_tree(12, 12)
        check_true(self, finding_holds(("tells", told_table(tree, 12, 12), tree, 10)))
        check_same(self, wrong_pairs(told_table(tree, 12, 12), as_telling(tree, 12, 12)), ())

    def test_fair_words(self):
        chance = Random(500)
        for answers in (2, 3, 12, 100):
            table = a_table(chance, 4, 3, answers)
            for many in (1, 2, 3, 12):
                check_true(self, finding_holds(("fair", table, many, fair_words(table, many))))
        table = a_table(chance, 6, 12, 2)
        weights = tuple(tuple(chance.randint(0, 10 ** 6) for _ in range(12)) for _ in range(6))
        check_same(self, least_wrong(table, weights, 12)[0], 0)

    def test_three(self):
        cube = tuple(tuple(tuple(33 * x + 11 * y + z for z in range(3)) for y in range(3)) for x in range(3))
        check_true(self, finding_holds(("three", cube, said(cube), said_parted(cube))))
        check_true(self, is_said((3, 3, 3), said(cube)))
        check_same(self, fewest_three(tuple(table[:2] for table in tuple(tuple(row[:2] for row in table)
                                                                         for table in cube[:2])))[0], 3)

    def test_both(self):
        chance = Random(501)
        one, other = a_table(chance, 4, 3, 10), a_table(chance, 3, 4, 10)
        draws = both_draws(some_draws(chance, one, 4, 12, 10, 10 ** 6), some_draws(chance, other, 4, 12, 10, 10 ** 6))
        self.assertEqual(len(own_of(draws)[0][0]), 16 * 144)
        self.assertEqual(len(own_wrong(both(one, other), own_of(draws))), 12)
        trees = a_tree(chance, 4, 3, 3, answers=10), a_tree(chance, 3, 4, 3, answers=10)
        tree = both_trees(*trees, (4, 3, 3, 4))
        check_true(self, finding_holds(("tells", both(told_table(trees[0], 4, 3), told_table(trees[1], 3, 4)), tree,
                                        depth_of(tree))))

    def test_machines(self):
        words = words_of_signs(6)
        for text in ("".join("{:04b}".format(k) for k in range(16)), "".join(str(int(w[:3] == w[3:])) for w in words),
                     "{:064b}".format(Random(502).randrange(2 ** 64))):
            question = (6, text)
            check_true(self, finding_holds(("states", question, machine_of(question), states(question))))
            for p in PRIMES:
                papers = tuple(ranked(cut(question, k), p) for k in range(7))
                check_true(self, finding_holds(("sums", question, p, summing_of(question, p), papers)))
        machine = a_great_machine()
        question = (6, "".join(str(reads(machine, word)) for word in words))
        check_same(self, sum_cut(97, summed(machine), 3), cut(question, 3))
        check_same(self, [len(sum_cut(97, a_great_summing(), k)) for k in range(7)], [1, 2, 4, 8, 16, 32, 64])

    def test_a_desk(self):
        table = a_table(Random(503), 12, 12, 100)
        written = " / ".join(" ".join(map(str, row)) for row in table)
        desk = Desk()
        for row, answer in ((f"put abcdefgh {written}", "ok"), ("few abcdefgh", "12 12"), ("rank abcdefgh 0", "12"),
                            ("keep abcdefgh 0 1 2 3 4 5 6 7 8 9 10 11 : " + written, "ok"),
                            ("ask abcdefgh 11 11", f"11 {table[11][11]}"), ("fair abcdefgh 12", "too great"),
                            ("put ab 0 1 2 / 3 4 5 / 6 7 8 / 9 10 11", "ok"), ("fair ab 1", "3/4"),
                            ("fair ab 3", "1/4")):
            self.assertEqual(desk.say(row), answer)


if __name__ == "__main__":
    unittest.main()
