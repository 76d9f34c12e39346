"""[2] Nothing that is handed in is changed; the same asked again is told the same."""

import os
import subprocess
import sys
import unittest
from random import Random

from tellfew.bothtold import both_draws, both_tellings, both_trees
from tellfew.cubes import is_cube
from tellfew.desk import Desk
from tellfew.determinants import determinant, stands
from tellfew.drawn import worst, wrong_in
from tellfew.errors import TellError
from tellfew.factors import factors
from tellfew.fairchecks import fair_words_holds
from tellfew.fairwords import fair_words
from tellfew.fewer import fewer
from tellfew.fewest import fewest
from tellfew.fewestthree import fewest_three
from tellfew.findings import finding_holds
from tellfew.fractions import less, lowest
from tellfew.gamechecks import fair_holds
from tellfew.games import fair
from tellfew.leastwrong import least_wrong
from tellfew.likes import numbered, unlike_cols, unlike_rows
from tellfew.machines import is_machine, machine_of, reads, words_at
from tellfew.own import own_of, own_wrong
from tellfew.parting import parted, parted_holds
from tellfew.questions import cut, is_question
from tellfew.rankchecks import ranked_holds
from tellfew.ranks import ranked
from tellfew.shutting import is_shut, shut_up
from tellfew.stands import Stand
from tellfew.statechecks import states_holds
from tellfew.states import states
from tellfew.summade import summing_of
from tellfew.summing import is_summing, sizes_of, sum_cut, summed, worth
from tellfew.tables import is_table, part_of, turned
from tellfew.tabletexts import read_table, show_table
from tellfew.telling import ends_of, first_wrong, tells, told
from tellfew.threechecks import said_parted_holds
from tellfew.threes import ends_of_three, is_three, tells_cube, told_three
from tellfew.threewords import is_said, said, said_parted, said_wrong
from tellfew.together import added, both, times
from tellfew.trees import depth_of, is_tree
from tellfew.treetexts import read_tree, show_tree
from tellfew.treewords import words_of
from tellfew.words import is_telling, one_word, told_by, wrong_pairs
from tests.things import (a_great_tree, a_machine, a_table, a_three, a_tree, kinds_of, odd_things, some_cubes,
                          some_draws,
                          some_questions, some_tables)

ROOT = os.path.dirname(os.path.dirname(os.path.abspath(__file__)))


def of_tables():
    asked = []
    for table in some_tables(31, 12) + [((5, 5), (5, 6), (5, 5)), ((1,) * 12,) * 12]:
        asked += [(is_table, (table,)), (turned, (table,)), (part_of, (table, (0,), (0,)))]
        asked += [(numbered, (table,)), (unlike_rows, (table,)), (unlike_cols, (table,)), (show_table, (table,))]
        asked += [(read_table, (show_table(table),)), (read_table, (show_table(table) + " ",))]
        asked += [(fewest, (table,)), (one_word, (table,)), (parted, (table,)), (parted_holds, (table, parted(table)))]
        asked += [(parted_holds, (table, ((0, 1), (0,)))), (is_telling, (2, 2, one_word(table)))]
        asked += [(told_by, (one_word(table), 0, 0)), (wrong_pairs, (table[::-1], one_word(table)))]
        asked += [(least_wrong, (table, table, many)) for many in (1, 2, 12)]
    return asked


def of_trees():
    chance = Random(32)
    asked = []
    for tree in [a_tree(chance, 3, 2, depth, answers=3) for depth in range(8)] + [a_great_tree(3, 2)]:
        asked += [(is_tree, (3, 2, tree)), (is_tree, (2, 3, tree)), (depth_of, (tree,)), (ends_of, (tree, 3, 2))]
        asked += [(show_tree, (tree,)), (words_of, (tree, 3)), (read_tree, (3, 2, show_tree(tree)))]
        asked += [(read_tree, (2, 3, show_tree(tree))), (read_tree, (3, 2, show_tree(tree) + "0"))]
        asked += [(told, (tree, i, j)) for i in range(3) for j in range(2)]
        for table in (((0, 1), (1, 2), (2, 2)), ((0, 0),) * 3):
            asked += [(tells, (table, tree)), (first_wrong, (table, tree))]
    return asked


def of_parts():
    chance = Random(33)
    asked = []
    for many in range(7):
        part = tuple(tuple(chance.randint(-4, 4) for _ in range(many)) for _ in range(many))
        asked += [(determinant, (part,))] + [(stands, (part, p)) for p in (0, 2, 3, 97)]
    return asked


def of_ranks():
    asked = []
    for table in some_tables(34, 8, answers=9) + [((0, 0),), ((99,) * 12,) * 12]:
        for p in (0, 2, 97):
            asked += [(ranked, (table, p)), (ranked_holds, (table, p, ranked(table, p)))]
            asked += [(ranked_holds, (table, p, ((), (), ((1, ()),) * len(table))))]
        asked += [(factors, (table, 2)), (factors, (table, 97))]
    return asked


def of_games():
    asked = [(lowest, (-6, 4)), (lowest, (0, -5)), (less, ((1, 2), (2, 3))), (less, ((1, 2), (1, 2)))]
    for table in some_tables(35, 12, answers=9) + [((10 ** 6, 0),), ((1,) * 8,) * 8]:
        asked += [(fair, (table,)), (fair_holds, (table, fair(table))), (fair_holds, (table, ((1, 1), (1,), (1,))))]
    return asked


def of_draws():
    chance = Random(36)
    asked = []
    for table in some_tables(37, 8):
        for draws in [some_draws(chance, table, many, 3, 3) for many in (1, 4)]:
            asked += [(wrong_in, (table, draws)), (worst, (table, draws)), (own_of, (draws,))]
            asked += [(own_wrong, (table, own_of(draws))), (fewer, (table, draws, 1, 2)), (fewer, (table, draws, 0, 1))]
    for table in some_tables(38, 8, most=4) + [((0, 1, 2),) * 4]:
        asked += [(fair_words, (table, many)) for many in (1, 2)]
        weights = tuple((1,) * len(row) for row in table)
        asked += [(fair_words_holds, (table, 12, ((0, 1), ((1, one_word(table)),), weights)))]
        asked += [(fair_words_holds, (table, 1, ((1, 2), ((1, one_word(table)),), weights)))]
    return asked


def of_three():
    chance = Random(39)
    asked = []
    for sizes in ((1, 1, 1), (2, 2, 2), (1, 2, 3), (3, 3, 3)):
        tree = a_three(chance, sizes, 4, answers=2)
        a, b, c = sizes
        cube = (((1,) * c,) * b,) * a
        asked += [(is_cube, (cube,)), (is_three, (sizes, tree)), (is_three, ((2, 1, 3), tree))]
        asked += [(tells_cube, (cube, tree)), (told_three, (tree, a - 1, b - 1, 0)), (ends_of_three, (tree, sizes))]
    for triples in ((), ((0, 1, 2),), ((0, 0, 1), (0, 1, 0), (1, 0, 0))):
        asked += [(is_shut, (triples,)), (shut_up, (triples,))]
    return asked


def of_cubes():
    asked = []
    for cube in some_cubes(40, 15, 2) + [((tuple(range(3)),) * 3,) * 3, (((1, 2), (3, 4)), ((5, 6), (7, 8)))]:
        sizes = len(cube), len(cube[0]), len(cube[0][0])
        asked += [(fewest_three, (cube,)), (said, (cube,)), (is_said, (sizes, said(cube))), (said_parted, (cube,))]
        asked += [(said_wrong, (cube[::-1], said(cube))), (said_parted_holds, (cube, said_parted(cube)))]
        asked += [(is_said, ((2, 2, 2), said(cube))), (said_parted_holds, (cube, (0, (0, 1), (0,))))]
    return asked


def of_both():
    chance = Random(41)
    asked = []
    for m, n, k, l in ((1, 12, 12, 1), (2, 3, 3, 2), (3, 4, 4, 3), (1, 1, 1, 1)):
        one, other = a_table(chance, m, n, 10), a_table(chance, k, l, 10)
        asked += [(both, (one, other)), (times, (one, other)), (added, (one, other, 1)), (added, (one, other, 19))]
        asked += [(both_tellings, (one_word(one), one_word(other)))]
        asked += [(both_draws, (some_draws(chance, one, 4, 3, 10), some_draws(chance, other, 3, 3, 10)))]
        trees = a_tree(chance, m, n, 3, answers=10), a_tree(chance, k, l, 3, answers=10)
        asked += [(both_trees, (trees[0], trees[1], (m, n, k, l)))]
    return asked


def of_questions():
    chance = Random(42)
    asked = []
    for question in some_questions(43, 8) + [(6, "01" * 32), (1, "00")]:
        n = question[0]
        machine = a_machine(chance, n, 5)
        asked += [(is_question, (question,)), (machine_of, (question,)), (is_machine, (n, machine))]
        asked += [(reads, (machine, "01" * (n // 2) + "1" * (n % 2))), (is_machine, (3, machine_of(question)))]
        for k in range(n + 1):
            asked += [(cut, (question, k)), (words_at, (machine, k)), (words_at, (machine_of(question), k))]
        asked += [(states, (question,)), (states_holds, (question, states(question))), (summed, (machine,))]
        asked += [(states_holds, (question, tuple((("0" * k,), ()) for k in range(n + 1)))),
                  (summing_of, (question, 2))]
        for summing in (summed(machine), summing_of(question, 3)):
            asked += [(is_summing, (n, 3, summing)), (is_summing, (2, 2, summing)), (sizes_of, (summing,))]
            asked += [(sum_cut, (3, summing, k)) for k in (0, n)] + [(worth, (3, summing, "1" * n))]
    return asked


def of_findings():
    asked = []
    for table in some_tables(44, 6) + [((1, 2), (3, 4))]:
        depth, tree = fewest(((0, 1), (1, 0)))
        asked += [(finding_holds, (("tells", table, tree, depth),)),
                  (finding_holds, (("tells", ((0, 1), (1, 0)), tree, 2),))]
        asked += [(finding_holds, (("words", table, one_word(table), parted(table)),))]
        asked += [(finding_holds, (("rank", table, p, ranked(table, 3)),)) for p in (0, 3, 4)]
        asked += [(finding_holds, (("game", table, fair(table)),)), (finding_holds, (("fair", table, 2, fair(table)),))]
    for cube in some_cubes(45, 5):
        asked += [(finding_holds, (("three", cube, said(cube), said_parted(cube)),))]
    for question in some_questions(46, 5, 4):
        papers = tuple(ranked(cut(question, k), 2) for k in range(question[0] + 1))
        asked += [(finding_holds, (("states", question, machine_of(question), states(question)),))]
        asked += [(finding_holds, (("sums", question, 2, summing_of(question, 2), papers),))]
        asked += [(finding_holds, (("sums", question, 2, summing_of(question, 2), papers[::-1]),))]
    return asked


def said_by_a_desk(*rows):
    """What a new desk answers to the rows, in turn."""
    desk = Desk()
    return tuple(answer_to((desk.say, (row,))) for row in rows)


def told_by_a_stand(*deeds):
    """What a new stand tells behind each of the deeds."""
    stand, told_behind = Stand(), []
    for name, *handed in deeds:
        refused = answer_to((getattr(stand, name), handed))
        held = tuple((word, stand.table(word), stand.kept(word), stand.fewest(word)) for word in stand.names())
        told_behind.append((refused, held, stand.gone(), stand.deeds()))
    return tuple(told_behind)


def of_stands():
    table, telling = ((1, 2), (3, 4)), ((0, 1), ((1, 2), (3, 4)))
    deeds = (("put", "b", table), ("put", "ab", table), ("put", "b", table), ("keep", "b", telling),
             ("keep", "b", telling),
             ("keep", "b", ((0, 0), ((1, 2),))), ("keep", "b", ((0,), ((1, 2),))), ("more", "b", (1, 2)),
             ("more", "b", (5, 6)),
             ("more", "b", ()), ("change", "ab", (0, 1), 9), ("change", "ab", (2, 0), 9), ("drop", "ab"), ("drop", "c"),
             ("back", 4), ("back", 9), ("put", [], table), ("put", "c", table), ("drop", None), ("back", 0))
    rows = ("put ab 1 2 / 3 4", "keep ab 0 1 : 1 2 / 3 4", "ask ab 1 0", "few ab", "rank ab 2", "fair ab 1", "gone",
            "kept ab",
            "more ab 7 7", "gone", "change ab 0 0 100", "keep ab 0 0 0 : 1 2", "back 1", "fair ab 13", "put c",
            "drop ab", "few ab")
    return [(told_by_a_stand, deeds), (said_by_a_desk, rows), (said_by_a_desk, rows[::-1]),
            (said_by_a_desk, tuple(odd_things()))]


def of_anything():
    asked = []
    for thing in odd_things():
        asked += [(is_table, (thing,)), (read_table, (thing,)), (is_tree, (2, 3, thing))]
        asked += [(read_tree, (2, 3, thing)), (is_telling, (2, 3, thing)), (parted_holds, (((1, 2), (2, 1)), thing))]
        asked += [(ranked_holds, (((1, 2), (2, 1)), p, thing)) for p in (0, 2)]
        asked += [(fair_holds, (((1, 2), (2, 1)), thing)), (fair_words_holds, (((1, 2), (2, 1)), 1, thing))]
        asked += [(is_cube, (thing,)), (is_three, ((2, 2, 2), thing)), (is_said, ((1, 2, 1), thing))]
        asked += [(said_parted_holds, ((((1,), (2,)),), thing)), (is_question, (thing,)), (is_machine, (2, thing))]
        asked += [(states_holds, ((1, "01"), thing)), (is_summing, (1, 2, thing)), (finding_holds, (thing,))]
        asked += [(finding_holds, (("words", thing, thing, thing),)),
                  (finding_holds, (("sums", thing, 2, thing, thing),))]
    return asked


def questions():
    of_two = of_tables() + of_trees() + of_parts() + of_ranks() + of_games() + of_draws()
    of_more = of_three() + of_cubes() + of_both() + of_questions() + of_findings() + of_stands()
    return of_two + of_more + of_anything()


def answer_to(question):
    function, handed = question
    try:
        return function(*handed)
    except TellError as refusal:
        return "refused", type(refusal).__name__, str(refusal)


def all_answers():
    return [kinds_of(answer_to(question)) for question in questions()]


def parts_are_listed(thing):
    """Whether thing is a text, whole number, truth, None or a tuple of these."""
    if type(thing) is tuple:
        return all(parts_are_listed(part) for part in thing)
    return thing is None or type(thing) in (str, int, bool)


class AskedAgain(unittest.TestCase):

    def test_nothing_handed_in_is_changed(self):
        for question in questions():
            before = kinds_of(question[1])
            answer_to(question)
            self.assertEqual(kinds_of(question[1]), before, question[0].__name__)

    def test_the_same_is_told_at_once_and_behind_other_questions(self):
        asked = questions()
        first = []
        for question in asked:
            first.append(kinds_of(answer_to(question)))
            self.assertEqual(kinds_of(answer_to(question)), first[-1], question[0].__name__)
        for question, before in reversed(list(zip(asked, first))):
            self.assertEqual(kinds_of(answer_to(question)), before, question[0].__name__)

    def test_what_is_told_is_made_of_listed_things(self):
        for question in questions():
            self.assertTrue(parts_are_listed(answer_to(question)), question[0].__name__)

    def test_the_same_is_told_by_every_run(self):
        line = "from tests.test_asked_again import all_answers; print(all_answers())"
        told_by_runs = []
        for seed in ("1", "2"):
            surroundings = dict(os.environ, PYTHONHASHSEED=seed, PYTHONPATH=ROOT)
            run = subprocess.run([sys.executable, "-c", line], cwd=ROOT, env=surroundings, check=True,
                                 stdout=subprocess.PIPE)
            told_by_runs.append(run.stdout)
        self.assertEqual(told_by_runs[0], told_by_runs[1])


if __name__ == "__main__":
    unittest.main()
