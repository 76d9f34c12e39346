"""What is told by a tree: of a pair, of a table, at its ends."""


def told(tree, i, j):
    """The signs that are told of the pair (i, j), in order, and the answer."""
    signs = []
    while tree[0] != "end":
        who, asked, t, u = tree
        sign = asked[i] if who == "row" else asked[j]
        signs.append(sign)
        tree = t if sign == 0 else u
    return tuple(signs), tree[1]


def tells(table, tree):
    """Whether the tree tells the table."""
    return first_wrong(table, tree) is None


def first_wrong(table, tree):
    """The first pair of which the tree does not tell the table's answer, else None."""
    for i, row in enumerate(table):
        for j, answer in enumerate(row):
            if told(tree, i, j)[1] != answer:
                return i, j
    return None


def ends_of(tree, m, n):
    """The ends of the tree, in order, as (rows, cols, answer)."""
    return _ends_among(tree, tuple(range(m)), tuple(range(n)))


def _ends_among(tree, rows, cols):
    if tree[0] == "end":
        return ((rows, cols, tree[1]),)
    who, signs, t, u = tree
    if who == "row":
        ahead = _ends_among(t, _with_sign(rows, signs, 0), cols)
        return ahead + _ends_among(u, _with_sign(rows, signs, 1), cols)
    ahead = _ends_among(t, rows, _with_sign(cols, signs, 0))
    return ahead + _ends_among(u, rows, _with_sign(cols, signs, 1))


def _with_sign(numbers, signs, sign):
    return tuple([k for k in numbers if signs[k] == sign])
