"""Fewer draws that are not wrong too often."""

from itertools import combinations

from tellfew.words import told_by


def fewer(table, draws, top, bottom):
    """The numbers of the fewest draws of which at most top of bottom are wrong at each pair, None where no such are."""
    wrong = _all_wrong(table, draws)
    for count in range(1, len(draws) + 1):
        for chosen in combinations(range(len(draws)), count):
            most = max([sum([numbers[k] for k in chosen]) for numbers in wrong])
            if most * bottom <= top * count:
                return chosen
    return None


def _all_wrong(table, draws):
    """For each pair a number for each draw: 1 where it is wrong, else 0; pairs with the same numbers once."""
    return sorted({tuple([1 if told_by(telling, i, j) != answer else 0 for _, telling in draws])
                   for i, row in enumerate(table) for j, answer in enumerate(row)})
