"""Trees of signs that are told in turn."""

from tellfew.kinds import ANSWERS, are_numbers, is_number


def is_tree(m, n, thing):
    """Whether thing, which may be anything, is a tree for m rows and n columns."""
    if not isinstance(thing, tuple):
        return False
    if len(thing) == 2:
        return thing[0] == "end" and is_number(thing[1], ANSWERS)
    if len(thing) != 4:
        return False
    who, signs, t, u = thing
    if who == "row":
        count = m
    elif who == "col":
        count = n
    else:
        return False
    return are_numbers(signs, count, 2) and is_tree(m, n, t) and is_tree(m, n, u)


def depth_of(tree):
    """How many signs the longest way of the tree has."""
    if tree[0] == "end":
        return 0
    return 1 + max(depth_of(tree[2]), depth_of(tree[3]))
