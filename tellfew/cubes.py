"""Cubes: what three ask for."""

from itertools import product

from tellfew.tables import is_table

# So many tables of a cube, and rows and columns of each, there are at most.
MOST = 3


def is_cube(thing):
    """Whether thing, which may be anything, is a cube."""
    if not isinstance(thing, tuple) or not 1 <= len(thing) <= MOST:
        return False
    if not all([is_table(table) for table in thing]):
        return False
    m, n = len(thing[0]), len(thing[0][0])
    return m <= MOST and n <= MOST and all([len(table) == m and len(table[0]) == n for table in thing])


def cube_sizes(cube):
    """How many tables, rows and columns the cube has."""
    return len(cube), len(cube[0]), len(cube[0][0])


def all_triples(sizes):
    """All triples of a cube of these sizes, rising."""
    a, b, c = sizes
    return list(product(range(a), range(b), range(c)))


def table_at(cube, z):
    """The table of the cube at z: a row for each y, a column for each x."""
    return tuple([tuple([table[y][z] for table in cube]) for y in range(len(cube[0]))])
