"""Summing machines made of questions."""

from tellfew.factors import rows_and_left
from tellfew.questions import cut


def summing_of(question, p):
    """The summing machine by the prime p, of the least sizes, whose worths are the answers of the question."""
    n, _ = question
    found = [rows_and_left(cut(question, k), p) for k in range(n + 1)]
    layers = tuple([_layer(rows, left) for (rows, _), (_, left) in zip(found, found[1:])])
    answers = cut(question, n)
    return found[0][1][0], layers, tuple([answers[i][0] for i in found[n][0]])


def _layer(rows, left):
    """(at 0, at 1): left has the sums that make the words that are one sign longer, two for each of all rows."""
    return tuple([left[2 * i] for i in rows]), tuple([left[2 * i + 1] for i in rows])
