"""Tellings by one word."""

from tellfew.kinds import ANSWERS, are_numbers
from tellfew.likes import numbered, unlike_rows


def is_telling(m, n, thing):
    """Whether thing, which may be anything, is a telling of a table of m rows and n columns."""
    if not isinstance(thing, tuple) or len(thing) != 2:
        return False
    words, answers = thing
    if not isinstance(answers, tuple) or len(answers) == 0:
        return False
    return are_numbers(words, m, len(answers)) and all(are_numbers(row, n, ANSWERS) for row in answers)


def told_by(telling, i, j):
    """The answer that is told of the pair (i, j)."""
    words, answers = telling
    return answers[words[i]][j]


def wrong_pairs(table, telling):
    """The pairs of which the telling does not tell the table's answer, rising."""
    return tuple([(i, j) for i, row in enumerate(table) for j, answer in enumerate(row)
                  if told_by(telling, i, j) != answer])


def one_word(table):
    """A right telling of the table, by as few words as can be."""
    return numbered(table), tuple([table[i] for i in unlike_rows(table)])
