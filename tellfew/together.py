"""Two tables at once."""


def both(one, other):
    """The table that has both answers, 10 * a + b."""
    return _together(one, other, lambda a, b: 10 * a + b)


def times(one, other):
    """The table that has both answers multiplied."""
    return _together(one, other, lambda a, b: a * b)


def added(one, other, q):
    """The table that has the rests by q of both answers added."""
    return _together(one, other, lambda a, b: (a + b) % q)


def _together(one, other, made):
    """The table of what is made of the answers of one and other at each pair of both."""
    return tuple([tuple([made(a, b) for a in row for b in line]) for row in one for line in other])
