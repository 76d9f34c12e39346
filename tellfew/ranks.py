"""Ranks by 0 or a prime, with papers that show them."""

from tellfew.determinants import determinant, rest
from tellfew.fractions import lessened
from tellfew.tables import part_of


def ranked(table, p):
    """(rows, cols, sums): a paper of the table's rank by p, which is 0 or a prime."""
    rows, cols = _greatest_part(table, p)
    part = part_of(table, rows, cols)
    d = rest(determinant(part), p)
    return rows, cols, tuple([(d, _some(part, tuple([row[j] for j in cols]), p)) for row in table])


def _greatest_part(table, p):
    """(rows, cols) of a part that stands by p, while no part of more rows does."""
    rows = []
    taken = []
    for i, row in enumerate(table):
        left = _cleared(_small(row, p), taken, p)
        cols = [j for j, number in enumerate(left) if number != 0]
        if cols:
            rows.append(i)
            taken.append((cols[0], left))
    return tuple(rows), tuple(sorted([col for col, _ in taken]))


def _cleared(row, taken, p):
    """Some times the row, less some times the rows taken, with 0 in each column for which one of these was taken."""
    for col, other in taken:
        row = _small([one * other[col] - row[col] * two for one, two in zip(row, other)], p)
    return row


def _small(row, p):
    """By a prime the rests of the row, else the row without the divisors that all its numbers have in common."""
    # Without this the numbers would have twice as many figures with each row taken.
    return lessened(row) if p == 0 else tuple([number % p for number in row])


def _some(part, answers, p):
    """How often each row of the part is taken, so that their sum is the answers times the part's determinant."""
    # By Cramer's rule: the determinants of the part with the answers in the place of each of its rows.
    return tuple([rest(determinant((*part[:k], answers, *part[k + 1:])), p) for k in range(len(part))])
