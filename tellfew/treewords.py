"""The words of a tree: what who knows the row could tell at once."""


def words_of(tree, m):
    """For each of m rows the tuple of its signs at all row knots, in the order in which a tree is written."""
    asked = _asked_of_rows(tree)
    return tuple([tuple([signs[i] for signs in asked]) for i in range(m)])


def _asked_of_rows(tree):
    """The signs of all row knots, in order."""
    if tree[0] == "end":
        return []
    who, signs, t, u = tree
    own = [signs] if who == "row" else []
    return own + _asked_of_rows(t) + _asked_of_rows(u)
