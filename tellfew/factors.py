"""Tables as products by a prime."""

from tellfew.ranks import ranked


def factors(table, p):
    """(left, right): each answer is, but for multiples of the prime p, the sum of left's row times right's column."""
    rows, left = rows_and_left(table, p)
    return left, tuple([tuple([answer % p for answer in table[i]]) for i in rows])


def rows_and_left(table, p):
    """(rows, left): numbers of as many rows as the rank by p, and how often each row of the table is made of them."""
    rows, _, sums = ranked(table, p)
    return rows, tuple([tuple([number * _inverse(d, p) % p for number in some]) for d, some in sums])


def _inverse(d, p):
    """The number below p that makes 1 of d, but for multiples of p."""
    return [number for number in range(p) if number * d % p == 1][0]
