"""Tellings of three: 0 tells a word, so 1 knows."""

from tellfew.cubes import all_triples, cube_sizes, table_at
from tellfew.kinds import ANSWERS, are_rows
from tellfew.parting import parted
from tellfew.tables import turned
from tellfew.words import one_word


def is_said(sizes, thing):
    """Whether thing, which may be anything, is a telling of three for sizes (a, b, c)."""
    if not isinstance(thing, tuple) or len(thing) != 2:
        return False
    a, b, c = sizes
    words, answers = thing
    if not isinstance(answers, tuple) or len(answers) == 0:
        return False
    return are_rows(words, b, c, len(answers)) and all([are_rows(rows, a, c, ANSWERS) for rows in answers])


def said(cube):
    """A right telling of three of the cube, by as few words as can be."""
    tellings = [one_word(table) for table in _tables(cube)]
    many = max([len(answers) for _, answers in tellings])
    words = turned([telling[0] for telling in tellings])
    return words, tuple([turned([_answers(answers, word) for _, answers in tellings]) for word in range(many)])


def said_wrong(cube, telling):
    """The triples of which the telling does not tell the cube's answer, rising."""
    words, answers = telling
    return tuple([(x, y, z) for x, y, z in all_triples(cube_sizes(cube))
                  if answers[words[y][z]][x][z] != cube[x][y][z]])


def said_parted(cube):
    """The paper of the first z with the most unlike ys, with the first xs that part them."""
    papers = [parted(table) for table in _tables(cube)]
    counts = [len(ys) for ys, _ in papers]
    z = counts.index(max(counts))
    return (z, *papers[z])


def _tables(cube):
    """The tables of the cube at all z."""
    return [table_at(cube, z) for z in range(len(cube[0][0]))]


def _answers(answers, word):
    """The answers of the word for each x, all 0 where there are not so many words."""
    return answers[word] if word < len(answers) else (0,) * len(answers[0])
