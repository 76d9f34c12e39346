"""[40] Findings, judged of anything."""

import itertools
import unittest
from random import Random

from tellfew.fairwords import fair_words
from tellfew.fewest import fewest
from tellfew.findings import finding_holds
from tellfew.games import fair
from tellfew.machines import machine_of
from tellfew.parting import parted
from tellfew.questions import cut
from tellfew.ranks import ranked
from tellfew.states import states
from tellfew.summade import summing_of
from tellfew.summing import summed
from tellfew.telling import told
from tellfew.threewords import said, said_parted
from tellfew.trees import depth_of
from tellfew.words import one_word
from tests.things import (PRIMES, a_great_tree, a_table, a_tree, check_false, check_none_of, check_same, check_true,
                          nested,
                          nested_dict, odd_things, of_other_kinds, some_cubes, some_questions, some_tables,
                          well_known_questions, with_part)

TABLE = ((0, 1, 5), (1, 0, 5), (0, 1, 5))
TREE = ("row", (0, 1, 0), ("col", (0, 1, 1), ("end", 0), ("col", (0, 0, 1), ("end", 1), ("end", 5))),
        ("col", (0, 0, 1), ("col", (1, 0, 0), ("end", 0), ("end", 1)), ("end", 5)))
WORDS = ((0, 1, 0), ((0, 1, 5), (1, 0, 5)))
PARTED = ((0, 1), (0,))
RANKED = ((0, 1), (0, 1), ((1, (1, 0)), (1, (0, 1)), (1, (1, 0))))
GAME = ((2, 0), (0, 1))
FAIR = ((2, 3), (1, 2), (1, 2))
FAIR_WORDS = ((1, 2), ((1, ((0, 0, 0), ((0, 1, 5),))), (1, ((0, 0, 0), ((1, 0, 5),)))),
              ((1, 0, 0), (1, 0, 0), (0, 0, 0)))
CUBE = (((1, 2), (3, 2), (1, 2)), ((5, 6), (5, 6), (5, 6)))
SAID = (((0, 0), (1, 0), (0, 0)), (((1, 2), (5, 6)), ((3, 0), (5, 0))))
SAID_PARTED = (0, (0, 1), (0,))
QUESTION = (2, "0110")
MACHINE = ((((0, 1),), ((0, 1), (1, 0))), (0, 1))
STATES = ((("",), ()), (("0", "1"), ("0",)), (("00", "01"), ("",)))
SUMMING = ((1,), ((((1, 0),), ((0, 1),)), (((0,), (1,)), ((1,), (0,)))), (1,))
RANKS = (((0,), (1,), ((1, (1,)),)), ((0, 1), (0, 1), ((1, (1, 0)), (1, (0, 1)))),
         ((1,), (0,), ((1, (0,)), (1, (1,)), (1, (1,)), (1, (0,)))))
ALL = {
    "tells": ("tells", TABLE, TREE, 3),
    "words": ("words", TABLE, WORDS, PARTED),
    "rank": ("rank", TABLE, 0, RANKED),
    "game": ("game", GAME, FAIR),
    "fair": ("fair", TABLE, 1, FAIR_WORDS),
    "three": ("three", CUBE, SAID, SAID_PARTED),
    "states": ("states", QUESTION, MACHINE, STATES),
    "sums": ("sums", QUESTION, 5, SUMMING, RANKS),
}
OTHER_NUMBERS = (True, False, None, "", "0", (), (0,), [0], {}, -1, 10 ** 39, -(10 ** 39))


class FindingCase(unittest.TestCase):

    def check_holds(self, *findings):
        for finding in findings:
            check_true(self, finding_holds(finding))

    def check_none_holds(self, *findings):
        check_none_of(self, finding_holds, findings)

    def check_parts(self, what, at, things):
        """The finding of that kind, with other things in the place of one part, does not hold."""
        self.check_none_holds(*[with_part(ALL[what], (at,), thing) for thing in things])


class Tells(FindingCase):

    def test_holding(self):
        self.check_holds(ALL["tells"], ("tells", ((7,),), ("end", 7), 0), ("tells", ((7, 7),) * 12, ("end", 7), 0))
        chance = Random(431)
        for depth in range(8):
            tree = a_tree(chance, 3, 4, depth, answers=4)
            table = tuple(tuple(told(tree, i, j)[1] for j in range(4)) for i in range(3))
            self.check_holds(("tells", table, tree, depth_of(tree)))
        for table in some_tables(432, 12, 4):
            depth, tree = fewest(table)
            self.check_holds(("tells", table, tree, depth))

    def test_the_greatest(self):
        tree = a_great_tree(12, 12)
        table = tuple(tuple(told(tree, i, j)[1] for j in range(12)) for i in range(12))
        self.check_holds(("tells", table, tree, 10))
        self.check_none_holds(("tells", table, tree, 9), ("tells", with_part(table, (11, 11), 98), tree, 10))

    def test_another_depth(self):
        self.check_parts("tells", 3, [0, 1, 2, 4, 5, 30, *OTHER_NUMBERS])
        self.check_none_holds(("tells", ((7,),), ("end", 7), 1), ("tells", ((7,),), ("end", 7), False))
        self.check_none_holds(("tells", ((1, 2),), ("col", (0, 1), ("end", 1), ("end", 2)), True))
        self.check_holds(("tells", ((1, 2),), ("col", (0, 1), ("end", 1), ("end", 2)), 1))

    def test_a_way_gone_by_no_pair_counts(self):
        tree = ("col", (0, 0), ("end", 1), ("row", (1,), ("end", 2), ("end", 3)))
        self.check_holds(("tells", ((1, 1),), tree, 2))
        self.check_none_holds(("tells", ((1, 1),), tree, 1))

    def test_a_wrong_pair(self):
        for i, j in itertools.product(range(3), repeat=2):
            self.check_none_holds(("tells", with_part(TABLE, (i, j), TABLE[i][j] + 1), TREE, 3))

    def test_no_table_or_no_tree_for_it(self):
        self.check_parts("tells", 1, [TABLE[:2], TABLE + TABLE[:1], tuple(row[:2] for row in TABLE), (), ((),),
                                      list(TABLE)])
        self.check_parts("tells", 1, of_other_kinds(TABLE))
        self.check_parts("tells", 2, of_other_kinds(TREE))
        self.check_parts("tells", 2, ["row 010 end 0 end 1", ("end", 0), TREE[2], (), ("row", (0, 1), TREE, TREE)])
        self.check_none_holds(("tells", with_part(TABLE, (0, 0), False), TREE, 3),
                              ("tells", ((100,),), ("end", 100), 0))


class Words(FindingCase):

    def test_holding(self):
        self.check_holds(ALL["words"], ("words", ((7,),), ((0,), ((7,),)), ((0,), ())))
        self.check_holds(("words", TABLE, ((1, 0, 1), WORDS[1][::-1]), ((1, 2), (1,))))
        for table in some_tables(433, 30, 12) + [cut((6, "0110" * 16), 6)]:
            self.check_holds(("words", table, one_word(table), parted(table)))

    def test_a_telling_wrong_at_one_pair(self):
        for i, j in itertools.product(range(3), repeat=2):
            self.check_none_holds(("words", with_part(TABLE, (i, j), TABLE[i][j] + 7), WORDS, PARTED))
        self.check_parts("words", 2, [((0, 0, 0), WORDS[1]), ((0, 1, 1), WORDS[1]), ((1, 0, 1), WORDS[1])])
        for w, j in itertools.product(range(2), range(3)):
            self.check_parts("words", 2, [with_part(WORDS, (1, w, j), WORDS[1][w][j] + 1)])

    def test_a_paper_of_fewer_rows(self):
        self.check_parts("words", 3, [((0,), ()), ((1,), ()), ((2,), ())])
        three = ((0,), (1,), (2,))
        telling = ((0, 1, 2), three)
        self.check_holds(("words", three, telling, ((0, 1, 2), (0, 0, 0))))
        self.check_none_holds(("words", three, telling, ((0, 2), (0,))))

    def test_more_words_than_must_be(self):
        self.check_parts("words", 2, [((0, 1, 2), TABLE), ((0, 1, 0), WORDS[1] + ((9, 9, 9),))])

    def test_papers_that_are_none(self):
        self.check_parts("words", 3, [((0, 1), (2,)), ((0, 2), (0,)), ((1, 0), (0,)), ((0, 1), ()), ((0, 3), (0,)),
                                      ((0, 0), (0,)), (), ((), ()), PARTED + ((),), *of_other_kinds(PARTED)])

    def test_no_table_or_telling(self):
        self.check_parts("words", 1, [(), ((),), TABLE[:2], tuple(row[:2] for row in TABLE), *of_other_kinds(TABLE)])
        self.check_parts("words", 2, [((0, 1), WORDS[1]), (WORDS[0], ()), WORDS[::-1], (), *of_other_kinds(WORDS)])


class Rank(FindingCase):

    def test_holding(self):
        self.check_holds(ALL["rank"])
        for p in (0,) + PRIMES:
            self.check_holds(("rank", TABLE, p, RANKED), ("rank", ((0, 0),), p, ((), (), ((1, ()),))))
            for table in some_tables(434, 3, 6, 100):
                self.check_holds(("rank", table, p, ranked(table, p)))

    def test_p_that_is_no_prime(self):
        numbers = [p for p in range(-5, 200) if p not in (0,) + PRIMES]
        self.check_parts("rank", 2, numbers + [97 * 97, 4294967291, *OTHER_NUMBERS])

    def test_a_paper_by_another_p(self):
        table = ((1, 1), (1, 3))
        self.check_holds(("rank", table, 0, ranked(table, 0)), ("rank", table, 2, ranked(table, 2)))
        self.check_none_holds(("rank", table, 2, ranked(table, 0)), ("rank", table, 0, ranked(table, 2)))

    def test_a_paper_of_another_table(self):
        for i, j in itertools.product((0, 2), range(3)):
            self.check_none_holds(("rank", with_part(TABLE, (i, j), TABLE[i][j] + 1), 0, RANKED))
        self.check_parts("rank", 1, [TABLE[:2], ((0, 0, 0),) * 3, (), ((),), *of_other_kinds(TABLE)])

    def test_papers_that_are_none(self):
        self.check_parts("rank", 3, [with_part(RANKED, (2, 0, 0), 0), with_part(RANKED, (2, 2, 1, 1), 1), RANKED[:2],
                                     ((0,), (0,), ((1, (1,)),) * 3), *of_other_kinds(RANKED)])


class Game(FindingCase):

    def test_holding(self):
        self.check_holds(ALL["game"], ("game", ((5,),), ((5, 1), (1,), (1,))),
                         ("game", GAME, ((2, 3), (50, 100), (3, 6))))
        for game in some_tables(435, 12, 8, 100) + [((10 ** 6, 0), (3, 10 ** 6))]:
            self.check_holds(("game", game, fair(game)))

    def test_games_of_no_bound(self):
        great = 10 ** 39
        self.check_holds(("game", ((great,),), ((great, 1), (1,), (1,))), ("game", ((100,),), ((100, 1), (7,), (8,))))
        game = ((1,) * 40,) * 40
        self.check_holds(("game", game, ((1, 1), (1,) * 40, (1,) * 40)))

    def test_another_value_or_shares(self):
        self.check_parts("game", 2, [((1, 2), (1, 2), (1, 2)), ((1, 1), (1, 2), (1, 2)), ((4, 6), (1, 2), (1, 2)),
                                     ((2, 3), (2, 1), (1, 2)), ((2, 3), (1, 2), (2, 1)), ((2, 3), (1, 2)),
                                     ((2, 3), (0, 0), (1, 2)), *of_other_kinds(FAIR)])

    def test_no_games(self):
        for game in ((), ((),), ((), ()), ((2, 0), (0,)), ((2, 0), (0, 1, 3)), (2, 0), ((2, -1), (0, 1)), ((2, 0), ()),
                     ((True, 0), (0, 1)), ((2, False), (0, 1)), ((2, 0), None), ((2, 0), [0, 1]), [[2, 0], [0, 1]],
                     ((2, "0"), (0, 1)), ((2, None), (0, 1)), "20", {0: (2, 0)}):
            self.check_none_holds(("game", game, FAIR), ("game", game, ((0, 1), (1,), (1,))),
                                  ("game", game, ((0, 1), (), ())))
        # What is asked and drawn would do, were there such games.
        self.check_none_holds(("game", ((-1,),), ((-1, 1), (1,), (1,))), ("game", ((0, -1),), ((-1, 1), (1,), (0, 1))),
                              ("game", ((True,),), ((1, 1), (1,), (1,))), ("game", ((False, 0),), ((0, 1), (1,), (1, 0))))
        self.check_parts("game", 1, of_other_kinds(GAME))
        self.check_parts("game", 1, [((0, 2), (0, 1)), GAME[:1], GAME + GAME, ((2, 0), (0, 2))])


class Fair(FindingCase):

    def test_holding(self):
        self.check_holds(ALL["fair"])
        for table in some_tables(436, 6, 3, 2):
            for many in (1, 2, 12):
                self.check_holds(("fair", table, many, fair_words(table, many)))

    def test_many(self):
        right = ((0, 1), ((1, WORDS),), ((1, 1, 1),) * 3)
        for many in range(2, 13):
            self.check_holds(("fair", TABLE, many, right))
        self.check_none_holds(*[("fair", TABLE, many, right) for many in (0, 1, 13, 14, 100, *OTHER_NUMBERS)])
        self.check_none_holds(*[("fair", TABLE, many, FAIR_WORDS) for many in (0, 2, 3, 12, 13, *OTHER_NUMBERS)])

    def test_a_table_of_seven_rows(self):
        for rows, holds in ((5, True), (6, True), (7, False), (8, False), (12, False)):
            table = ((3, 4),) * rows
            paper = ((0, 1), ((1, ((0,) * rows, ((3, 4),))),), ((1, 1),) * rows)
            check_same(self, finding_holds(("fair", table, 1, paper)), holds)

    def test_six_rows_and_twelve_columns(self):
        chance = Random(437)
        table = a_table(chance, 6, 12, 100)
        paper = ((0, 1), ((1, one_word(table)),), ((1,) * 12,) * 6)
        self.check_holds(("fair", table, 6, paper))
        self.check_none_holds(("fair", table, 5, paper), ("fair", table[:5] + table[:1], 6, paper))

    def test_other_papers(self):
        value, draws, weights = FAIR_WORDS
        self.check_parts("fair", 3, [((1, 3), draws, weights), ((2, 3), draws, weights), ((2, 4), draws, weights),
                                     (value, draws[:1], weights), (value, draws, ((1, 0, 0),) * 3), (value, draws),
                                     (value, draws, ((0, 0, 0),) * 3), *of_other_kinds(FAIR_WORDS)])

    def test_no_table(self):
        self.check_parts("fair", 1, [(), ((),), ((0, 1), (1, 0), (0, 1)), *of_other_kinds(TABLE)])


class Three(FindingCase):

    def test_holding(self):
        self.check_holds(ALL["three"], ("three", (((7,),),), (((0,),), (((7,),),)), (0, (0,), ())))
        for cube in some_cubes(438, 40, 2) + some_cubes(439, 20, 100):
            self.check_holds(("three", cube, said(cube), said_parted(cube)))

    def test_a_wrong_triple(self):
        for x, y, z in itertools.product(range(2), range(3), range(2)):
            self.check_none_holds(("three", with_part(CUBE, (x, y, z), CUBE[x][y][z] + 20), SAID, SAID_PARTED))
        self.check_parts("three", 2, [with_part(SAID, (0, 1, 0), 0), with_part(SAID, (0, 0, 1), 1),
                                      (SAID[0], SAID[1][::-1])])
        # At z 1 no y has the word 1: any answers there are right.
        self.check_holds(with_part(ALL["three"], (2, 1, 1, 0, 1), 99))

    def test_as_many_ys_as_words(self):
        self.check_parts("three", 3, [(0, (0,), ()), (1, (0,), ()), (0, (1,), ())])
        self.check_parts("three", 2, [(SAID[0], SAID[1] + SAID[1][:1]),
                                      (((0, 0), (1, 0), (2, 0)), SAID[1] + SAID[1][:1])])
        self.check_holds(with_part(ALL["three"], (3,), (0, (1, 2), (0,))))

    def test_papers_that_are_none(self):
        self.check_parts("three", 3, [(1, (0, 1), (0,)), (0, (0, 2), (0,)), (0, (0, 1), (1,)), (2, (0, 1), (0,)),
                                      *of_other_kinds(SAID_PARTED)])

    def test_no_cube_or_telling(self):
        self.check_parts("three", 1, [(), CUBE[0], CUBE + CUBE, CUBE[:1], ((),), *of_other_kinds(CUBE)])
        self.check_parts("three", 2, [(), SAID[::-1], (SAID[0], ()), WORDS, *of_other_kinds(SAID)])
        four = (((0,),) * 4,)
        self.check_none_holds(("three", four, (((0,),) * 4, (((0,),),)), (0, (0,), ())))


class States(FindingCase):

    def test_holding(self):
        self.check_holds(ALL["states"], ("states", (1, "00"), ((((0, 0),),), (0,)), ((("",), ()), (("1",), ()))))
        for question in some_questions(440, 30) + well_known_questions():
            self.check_holds(("states", question, machine_of(question), states(question)))

    def test_states_in_another_order(self):
        machine = ((((1, 0),), ((1, 0), (0, 1))), (0, 1))
        self.check_holds(with_part(ALL["states"], (2,), machine))

    def test_a_machine_that_reads_one_word_otherwise(self):
        for way in ((0, 0, 0, 0), (0, 0, 0, 1), (0, 1, 0, 0), (0, 1, 0, 1), (0, 1, 1, 0), (0, 1, 1, 1), (1, 0), (1, 1)):
            part = MACHINE
            for at in way:
                part = part[at]
            self.check_parts("states", 2, [with_part(MACHINE, way, 1 - part)])
        for at in range(4):
            text = QUESTION[1][:at] + "10"[int(QUESTION[1][at])] + QUESTION[1][at + 1:]
            self.check_parts("states", 1, [(2, text)])
        question = (6, "01" * 32)
        for at in (0, 31, 63):
            other = (6, question[1][:at] + "10"[int(question[1][at])] + question[1][at + 1:])
            self.check_none_holds(("states", other, machine_of(question), states(question)))

    def test_as_many_words_at_each_k_as_states(self):
        self.check_parts("states", 3, [with_part(STATES, (1,), (("0",), ())), with_part(STATES, (2,), (("00",), ()))])
        more = ((((0, 1),), ((0, 1), (1, 0), (1, 0))), (0, 1))
        self.check_parts("states", 2, [more, (MACHINE[0], (0, 1, 1)), ((((0, 2),), ((0, 1), (0, 1), (1, 0))), (0, 1))])

    def test_papers_that_are_none(self):
        self.check_parts("states", 3, [STATES[:2], STATES + STATES[2:], (), with_part(STATES, (1, 0), ("1", "0")),
                                       with_part(STATES, (2, 1), ()), *of_other_kinds_but(STATES)])

    def test_no_question_or_machine(self):
        self.check_parts("states", 1, [(), (2, "011"), (2, "01101"), (1, "01"), (3, "01101001"), (0, "0"),
                                       (7, "0" * 128),
                                       *of_other_kinds(QUESTION)])
        self.check_parts("states", 2, [(), MACHINE[::-1], (MACHINE[0][:1], (0, 1)), *of_other_kinds(MACHINE)])


class Sums(FindingCase):

    def test_holding(self):
        for p in PRIMES:
            self.check_holds(with_part(ALL["sums"], (2,), p))
        for question in some_questions(441, 15) + well_known_questions() + [(6, "0" * 64)]:
            for p in (2, 97):
                papers = tuple(ranked(cut(question, k), p) for k in range(question[0] + 1))
                self.check_holds(("sums", question, p, summing_of(question, p), papers))

    def test_a_worth_that_is_no_answer(self):
        for at in range(4):
            text = QUESTION[1][:at] + "10"[int(QUESTION[1][at])] + QUESTION[1][at + 1:]
            self.check_parts("sums", 1, [(2, text)])
        for way in ((0, 0), (1, 0, 0, 0, 0), (1, 0, 1, 0, 1), (1, 1, 0, 1, 0), (1, 1, 1, 0, 0), (2, 0)):
            self.check_parts("sums", 3, [with_part(SUMMING, way, number) for number in (0, 2, 3, 4)])
        self.check_holds(with_part(with_part(ALL["sums"], (3, 0, 0), 2), (3, 2, 0), 3))

    def test_p(self):
        numbers = [p for p in range(-5, 200) if p not in PRIMES]
        self.check_parts("sums", 2, numbers + [97 * 97, *OTHER_NUMBERS])

    def test_papers_too_few_or_too_many(self):
        self.check_parts("sums", 4, [(), RANKS[:2], RANKS[1:], RANKS + RANKS[2:], RANKS[::-1], (RANKS,), RANKS[0],
                                     *of_other_kinds(RANKS)])

    def test_papers_of_other_cuts(self):
        for k in range(3):
            for other in range(3):
                if other != k:
                    self.check_parts("sums", 4, [with_part(RANKS, (k,), RANKS[other])])

    def test_sizes_that_are_no_ranks(self):
        # Three rows in the layer, one of them never taken.
        layers = ((((1, 0, 0),), ((0, 1, 0),)), (((0,), (1,), (0,)), ((1,), (0,), (0,))))
        self.check_parts("sums", 3, [((1,), layers, (1,)), summed(MACHINE)])
        self.check_none_holds(("sums", (1, "00"), 2, ((0,), ((((1,),), ((1,),)),), (1,)), (((), (), ((1, ()),)),
                                                                                          ((), (), ((1, ()),) * 2))))
        self.check_holds(("sums", (1, "00"), 2, ((), (((), ()),), ()),
                          (((), (), ((1, ()),)), ((), (), ((1, ()),) * 2))))

    def test_no_question_or_machine(self):
        self.check_parts("sums", 1, [(), (2, "011"), (1, "01"), (3, "01101001"), *of_other_kinds(QUESTION)])
        self.check_parts("sums", 3, [(), SUMMING[:2], SUMMING[1:] + SUMMING[:1], MACHINE, *of_other_kinds(SUMMING)])
        self.check_parts("sums", 3, [with_part(SUMMING, (0, 0), number) for number in (5, 6, -4)])


class OfAnything(FindingCase):

    def test_each_holds_as_it_stands(self):
        self.check_holds(*ALL.values())

    def test_unknown_first_words(self):
        for what, finding in ALL.items():
            for word in ("", "tell", "Tells", "words ", " words", "ranks", "rank\n", "games", "fairs", "cube", "state",
                         "sum",
                         "said", None, True, False, 0, 1, (), ("words",), ["words"], {}, {"words": 1}, (what,), [what]):
                self.check_none_holds((word,) + finding[1:])
            self.check_none_holds(*[(other,) + finding[1:] for other in ALL if other != what])

    def test_parts_missing_or_too_many(self):
        for finding in ALL.values():
            self.check_none_holds(*[finding[:k] for k in range(len(finding))])
            self.check_none_holds(*[finding[:k] + finding[k + 1:] for k in range(len(finding))])
            self.check_none_holds(*[finding + (part,) for part in finding + ((), None)])
            self.check_none_holds(finding[::-1], (finding,), finding[1:], finding + finding)

    def test_lists_dicts_texts(self):
        for finding in ALL.values():
            self.check_none_holds(list(finding), dict(enumerate(finding)), str(finding), {finding[0]: finding[1:]})

    def test_odd_things(self):
        self.check_none_holds(*odd_things())
        for what, finding in ALL.items():
            self.check_none_holds(*[(what,) * many for many in (1, 2, 3, 4, 5, 100)])
            for at in range(1, len(finding)):
                known = [p for p in (0, 7) if what in ("rank", "sums") and at == 2]
                self.check_parts(what, at, [thing for thing in odd_things() + [
                    nested(1, 28), nested((), 28), nested(1, 28, list), nested_dict(1, 28), nested(TREE, 24)]
                    if thing not in known and not (what == "fair" and at == 2 and thing == 1)])

    def test_truths_for_numbers_that_are_equal(self):
        check_false(self, finding_holds(("fair", TABLE, True, FAIR_WORDS)))
        check_false(self, finding_holds(("rank", TABLE, False, RANKED)))
        self.check_none_holds(with_part(ALL["states"], (2, 1, 0), False), with_part(ALL["sums"], (3, 2, 0), True))

    def test_five_thousand_parts(self):
        wide = (tuple(range(100)) * 24,)
        self.check_holds(("words", wide, one_word(wide), parted(wide)))
        tall = tuple((k % 100,) for k in range(1500))
        self.check_holds(("words", tall, one_word(tall), parted(tall)))
        self.check_none_holds(("words", tall, one_word(tall), (tuple(range(1500)), (0,) * 1500)))
        self.check_holds(("rank", ((1,) * 1000,), 0, ((0,), (0,), ((1, (1,)),))))
        table = a_table(Random(442), 20, 20, 100)
        self.check_holds(("rank", table, 97, ranked(table, 97)))
        row = ((0,) * 1000, (0,) * 1000)
        self.check_none_holds(("sums", (6, "1" * 64), 2, ((1,) * 1000, (row,) * 2, (1,) * 1000), ()))


def of_other_kinds_but(thing):
    """All of thing with one part of another kind, but for those that are just it."""
    return [other for other in of_other_kinds(thing) if repr(other) != repr(thing)]


if __name__ == "__main__":
    unittest.main()
