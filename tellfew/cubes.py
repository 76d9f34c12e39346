"""Cubes: what three ask for."""

from tellfew.tables import is_table

# So many tables of a cube, and rows and columns of each, there are at most.
MOST = 3


def is_cube(thing):
    """Whether thing, which may be anything, is a cube."""
    if not isinstance(thing, tuple) or not 1 <= len(thing) <= MOST:
        return False
    if not all([is_table(table) for table in thing]):
        return False
    m, n = len(thing[0]), len(thing[0][0])
    return m <= MOST and n <= MOST and all([len(table) == m and len(table[0]) == n for table in thing])
