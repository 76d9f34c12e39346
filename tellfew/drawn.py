"""Draws in common: by which weights they are wrong."""

from tellfew.words import told_by


def wrong_in(table, draws):
    """For each pair, in a tuple of rows, the weight of the draws that are wrong there."""
    return tuple([tuple([_weight_wrong(draws, i, j, answer) for j, answer in enumerate(row)])
                  for i, row in enumerate(table)])


def worst(table, draws):
    """(weight, pair): the greatest weight that is wrong at a pair, and the first pair with it."""
    found = [(weight, (i, j)) for i, row in enumerate(wrong_in(table, draws)) for j, weight in enumerate(row)]
    return max(found, key=lambda one: one[0])


def _weight_wrong(draws, i, j, answer):
    return sum([weight for weight, telling in draws if told_by(telling, i, j) != answer])
