"""Trees as texts."""

from tellfew.errors import NoText
from tellfew.figures import read_answer


def show_tree(tree):
    """The text of a tree."""
    if tree[0] == "end":
        return f"end {tree[1]}"
    who, signs, t, u = tree
    asked = "".join([str(sign) for sign in signs])
    return f"{who} {asked} {show_tree(t)} {show_tree(u)}"


def read_tree(m, n, text):
    """The tree for m rows and n columns that is written just so, else, of anything, NoText comes."""
    if not isinstance(text, str):
        raise NoText("a tree is read from a text")
    words = text.split(" ")
    if len(words) % 2 == 1:
        raise NoText("each knot of a tree has two words")
    # Read from its end, a text has the branches of a knot ahead of it, the first one last.
    trees = []
    for who, asked in reversed(list(zip(words[::2], words[1::2]))):
        if who == "end":
            trees.append(("end", read_answer(asked)))
            continue
        signs = _read_signs(who, asked, m, n)
        if len(trees) < 2:
            raise NoText("a branch is missing")
        t = trees.pop()
        u = trees.pop()
        trees.append((who, signs, t, u))
    if len(trees) != 1:
        raise NoText("a text has one tree")
    return trees[0]


def _read_signs(who, asked, m, n):
    if who != "row" and who != "col":
        raise NoText("a knot begins with end, row or col")
    if len(asked) != (m if who == "row" else n) or not all(sign in "01" for sign in asked):
        raise NoText("a knot has a sign, 0 or 1, for each row or column")
    return tuple([int(sign) for sign in asked])
