"""Whether a paper shows how seldom words can be wrong, whoever wrote it."""

from tellfew.drawn import worst
from tellfew.fractions import is_fraction
from tellfew.kinds import are_counts, is_whole
from tellfew.leastwrong import MOST_ROWS, least_wrong
from tellfew.words import is_telling


def fair_words_holds(table, many, thing):
    """Whether thing, which may be anything, is a paper of fair words of the table by at most many words."""
    if len(table) > MOST_ROWS or not isinstance(thing, tuple) or len(thing) != 3:
        return False
    value, draws, weights = thing
    if not is_fraction(value) or not _are_draws(table, many, draws) or not _are_weights(table, weights):
        return False
    top, bottom = value
    if worst(table, draws)[0] * bottom > top * sum([weight for weight, _ in draws]):
        return False
    return least_wrong(table, weights, many)[0] * bottom >= top * sum([sum(row) for row in weights])


def _are_draws(table, many, thing):
    """Whether thing is draws in common for the table, each of at most many words."""
    if not isinstance(thing, tuple) or len(thing) == 0:
        return False
    return all([_is_draw(table, many, draw) for draw in thing])


def _is_draw(table, many, thing):
    if not isinstance(thing, tuple) or len(thing) != 2:
        return False
    weight, telling = thing
    if not is_whole(weight) or weight < 1:
        return False
    return is_telling(len(table), len(table[0]), telling) and len(telling[1]) <= many


def _are_weights(table, thing):
    """Whether thing is weights of the table, however great, not all 0."""
    if not isinstance(thing, tuple) or len(thing) != len(table):
        return False
    if not all([isinstance(row, tuple) and len(row) == len(table[0]) for row in thing]):
        return False
    numbers = [number for row in thing for number in row]
    return are_counts(tuple(numbers), len(numbers))
