"""Tables as products by a prime."""

from tellfew.ranks import ranked


def factors(table, p):
    """(left, right): each answer is, but for multiples of the prime p, the sum of left's row times right's column."""
    rows, _, sums = ranked(table, p)
    left = tuple([tuple([number * _inverse(d, p) % p for number in some]) for d, some in sums])
    return left, tuple([tuple([answer % p for answer in table[i]]) for i in rows])


def _inverse(d, p):
    """The number below p that makes 1 of d, but for multiples of p."""
    return [number for number in range(p) if number * d % p == 1][0]
