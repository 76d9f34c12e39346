"""What tells two tables at once: tellings, draws and trees of both."""

from tellfew.together import both


def both_tellings(one, other):
    """The telling of both tables: a word of each at once."""
    many = len(other[1])
    return tuple([v * many + w for v in one[0] for w in other[0]]), both(one[1], other[1])


def both_draws(one, other):
    """The draws in common of both tables: each of the first ones with each of the second ones, in order."""
    return tuple([(weight * factor, both_tellings(telling, second))
                  for weight, telling in one for factor, second in other])


def both_trees(one, other, sizes):
    """The tree of both tables, sizes (m, n, k, l): the first one, in the place of each end the second one."""
    m, n, k, l = sizes
    if one[0] == "end":
        return _behind(other, one[1], m, n)
    who, signs, t, u = one
    # Each row (column) of the first table is the next k rows (l columns) of both.
    many = k if who == "row" else l
    asked = tuple([sign for sign in signs for _ in range(many)])
    return who, asked, both_trees(t, other, sizes), both_trees(u, other, sizes)


def _behind(tree, answer, m, n):
    """The second tree behind an end, with that answer, of the first one, which is for m rows and n columns."""
    if tree[0] == "end":
        return "end", 10 * answer + tree[1]
    who, signs, t, u = tree
    return who, signs * (m if who == "row" else n), _behind(t, answer, m, n), _behind(u, answer, m, n)
