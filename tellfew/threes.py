"""Trees of three, each of whom sees the two others' numbers."""

from tellfew.cubes import all_triples
from tellfew.kinds import ANSWERS, are_rows, is_number


def is_three(sizes, thing):
    """Whether thing, which may be anything, is a tree of three for sizes (a, b, c)."""
    if not isinstance(thing, tuple):
        return False
    if len(thing) == 2:
        return thing[0] == "end" and is_number(thing[1], ANSWERS)
    if len(thing) != 4 or not is_number(thing[0], 3):
        return False
    who, signs, t, u = thing
    first, second = seen(who, sizes)
    return are_rows(signs, first, second, 2) and is_three(sizes, t) and is_three(sizes, u)


def told_three(tree, x, y, z):
    """The signs that are told of the triple (x, y, z), in order, and the answer."""
    signs = []
    while tree[0] != "end":
        sign = _sign(tree, (x, y, z))
        signs.append(sign)
        tree = tree[2 + sign]
    return tuple(signs), tree[1]


def tells_cube(cube, tree):
    """Whether the tree tells the cube."""
    return all([told_three(tree, x, y, z)[1] == answer
                for x, table in enumerate(cube) for y, row in enumerate(table) for z, answer in enumerate(row)])


def ends_of_three(tree, sizes):
    """The ends of the tree, in order, as (triples, answer): the triples that come there, rising."""
    return _ends_among(tree, all_triples(sizes))


def seen(who, numbers):
    """The two of three numbers that who sees."""
    return tuple([number for k, number in enumerate(numbers) if k != who])


def _ends_among(tree, triples):
    if tree[0] == "end":
        return ((tuple(triples), tree[1]),)
    ahead = _ends_among(tree[2], [triple for triple in triples if _sign(tree, triple) == 0])
    return ahead + _ends_among(tree[3], [triple for triple in triples if _sign(tree, triple) == 1])


def _sign(tree, triple):
    """The sign that is told of the triple at the first knot of the tree."""
    who, signs, _, _ = tree
    first, second = seen(who, triple)
    return signs[first][second]
