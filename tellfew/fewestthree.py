"""The fewest signs of a cube."""

from tellfew.cubes import all_triples, cube_sizes
from tellfew.errors import TooGreat
from tellfew.fewest import parted_in_two
from tellfew.threes import seen

# So many tables of a cube, and rows and columns of each, there are at most.
MOST = 2


def fewest_three(cube):
    """(depth, tree), a tree of least depth that tells the cube, else TooGreat comes."""
    sizes = cube_sizes(cube)
    if max(sizes) > MOST:
        raise TooGreat("more than two tables, rows or columns")
    return _least(cube, tuple(all_triples(sizes)), {})


def _least(cube, triples, known):
    """(depth, tree), of least depth for these of the triples; known has what was told before."""
    if triples not in known:
        known[triples] = _found(cube, triples, known)
    return known[triples]


def _found(cube, triples, known):
    answers = sorted({cube[x][y][z] for x, y, z in triples})
    if len(answers) == 1:
        return 0, ("end", answers[0])
    # A sign that does not part the triples tells nothing: no least tree needs one.
    found = []
    for who in range(3):
        for t, u in parted_in_two(sorted({seen(who, triple) for triple in triples})):
            low = _least(cube, tuple([triple for triple in triples if seen(who, triple) in t]), known)
            high = _least(cube, tuple([triple for triple in triples if seen(who, triple) in u]), known)
            found.append((1 + max(low[0], high[0]), (who, _signs(who, cube, u), low[1], high[1])))
    return min(found, key=lambda way: way[0])


def _signs(who, cube, chosen):
    """A sign for each two numbers that who may see: 1 where they are among the chosen, else 0."""
    first, second = seen(who, cube_sizes(cube))
    return tuple([tuple([1 if (i, j) in chosen else 0 for j in range(second)]) for i in range(first)])
