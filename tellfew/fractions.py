"""Fractions in lowest terms."""

from math import gcd

from tellfew.kinds import is_whole


def lowest(top, bottom):
    """The fraction of two whole numbers, bottom not 0, in lowest terms."""
    divisor = gcd(top, bottom)
    if bottom < 0:
        divisor = -divisor
    return top // divisor, bottom // divisor


def less(one, other):
    """Whether one fraction is less than the other one."""
    return one[0] * other[1] < other[0] * one[1]


def is_fraction(thing):
    """Whether thing, which may be anything, is a fraction in lowest terms."""
    if not isinstance(thing, tuple) or len(thing) != 2:
        return False
    top, bottom = thing
    return is_whole(top) and is_whole(bottom) and bottom > 0 and gcd(top, bottom) == 1


def lessened(numbers):
    """The whole numbers, in a tuple, without the divisors that all of them have in common."""
    divisor = 0
    for number in numbers:
        divisor = gcd(divisor, number)
    return tuple([number // max(divisor, 1) for number in numbers])
