"""Findings: what is so, with the papers that show it, whoever wrote them."""

from tellfew.cubes import cube_sizes, is_cube
from tellfew.fairchecks import fair_words_holds
from tellfew.gamechecks import fair_holds
from tellfew.games import is_game
from tellfew.kinds import is_many, is_nought_or_prime, is_prime, is_whole
from tellfew.machines import is_machine, reads, states_of
from tellfew.parting import parted_holds
from tellfew.questions import all_words, cut, is_question
from tellfew.rankchecks import ranked_holds
from tellfew.statechecks import states_holds
from tellfew.summing import is_summing, sizes_of, sum_cut
from tellfew.tables import is_table
from tellfew.telling import tells
from tellfew.threechecks import said_parted_holds
from tellfew.threewords import is_said, said_wrong
from tellfew.trees import depth_of, is_tree
from tellfew.words import is_telling, wrong_pairs


def finding_holds(thing):
    """Whether thing, which may be anything, is a finding that holds."""
    if not isinstance(thing, tuple) or len(thing) == 0 or not isinstance(thing[0], str):
        return False
    if thing[0] not in COUNTS or len(thing) != 1 + COUNTS[thing[0]]:
        return False
    holds = HOLDS[thing[0]]
    return holds(thing[1:])


def _tells_holds(parts):
    table, tree, depth = parts
    if not is_table(table) or not is_tree(len(table), len(table[0]), tree) or not is_whole(depth):
        return False
    return depth_of(tree) == depth and tells(table, tree)


def _words_hold(parts):
    table, telling, paper = parts
    if not is_table(table) or not is_telling(len(table), len(table[0]), telling) or not parted_holds(table, paper):
        return False
    return len(paper[0]) == len(telling[1]) and len(wrong_pairs(table, telling)) == 0


def _rank_holds(parts):
    table, p, paper = parts
    return is_table(table) and is_nought_or_prime(p) and ranked_holds(table, p, paper)


def _game_holds(parts):
    game, paper = parts
    return is_game(game) and fair_holds(game, paper)


def _fair_holds(parts):
    table, many, paper = parts
    return is_table(table) and is_many(many) and fair_words_holds(table, many, paper)


def _three_holds(parts):
    cube, telling, paper = parts
    if not is_cube(cube) or not is_said(cube_sizes(cube), telling) or not said_parted_holds(cube, paper):
        return False
    return len(paper[1]) == len(telling[1]) and len(said_wrong(cube, telling)) == 0


def _states_hold(parts):
    question, machine, paper = parts
    if not is_question(question) or not is_machine(question[0], machine) or not states_holds(question, paper):
        return False
    if tuple([len(words) for words, _ in paper]) != states_of(machine):
        return False
    n, text = question
    return all([reads(machine, word) == int(sign) for word, sign in zip(all_words(n), text)])


def _sums_hold(parts):
    question, p, machine, papers = parts
    if not is_question(question) or not is_prime(p) or not is_summing(question[0], p, machine):
        return False
    sizes = sizes_of(machine)
    if not isinstance(papers, tuple) or len(papers) != len(sizes) or sum_cut(p, machine, 0) != cut(question, 0):
        return False
    return all([ranked_holds(cut(question, k), p, paper) and len(paper[0]) == size
                for k, (paper, size) in enumerate(zip(papers, sizes))])


# How many parts each finding has behind its first word, and what tells of these whether it holds.
COUNTS = {"tells": 3, "words": 3, "rank": 3, "game": 2, "fair": 3, "three": 3, "states": 3, "sums": 4}
HOLDS = {"tells": _tells_holds, "words": _words_hold, "rank": _rank_holds, "game": _game_holds, "fair": _fair_holds,
         "three": _three_holds, "states": _states_hold, "sums": _sums_hold}
