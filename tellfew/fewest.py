"""The fewest signs of a table."""

from tellfew.errors import TooGreat
from tellfew.likes import unlike_cols, unlike_rows
from tellfew.tables import turned

# So many unlike rows, and so many unlike columns, a table has at most.
MOST = 4


def fewest(table):
    """(depth, tree), a tree of least depth that tells the table, else TooGreat comes."""
    rows, cols = unlike_rows(table), unlike_cols(table)
    if len(rows) > MOST or len(cols) > MOST:
        raise TooGreat("more than four unlike rows or columns")
    return _least(table, rows, cols, {})


def parted_in_two(things):
    """All (t, u) that things are parted in, neither empty, the first one in t."""
    parted = []
    for chosen in range(1, 1 << (len(things) - 1)):
        u = tuple([thing for at, thing in enumerate(things[1:]) if chosen >> at & 1 == 1])
        parted.append((tuple([thing for thing in things if thing not in u]), u))
    return parted


def _least(table, rows, cols, known):
    """(depth, tree), of least depth for these of the unlike rows and columns; known has what was told before."""
    if (rows, cols) not in known:
        known[rows, cols] = _found(table, rows, cols, known)
    return known[rows, cols]


def _found(table, rows, cols, known):
    answers = sorted({table[i][j] for i in rows for j in cols})
    if len(answers) == 1:
        return 0, ("end", answers[0])
    # A sign that parts neither rows nor columns tells nothing: no least tree needs one.
    found = []
    for t, u in parted_in_two(rows):
        low, high = _least(table, t, cols, known), _least(table, u, cols, known)
        found.append((1 + max(low[0], high[0]), ("row", _signs(table, u), low[1], high[1])))
    for t, u in parted_in_two(cols):
        low, high = _least(table, rows, t, known), _least(table, rows, u, known)
        found.append((1 + max(low[0], high[0]), ("col", _signs(turned(table), u), low[1], high[1])))
    return min(found, key=lambda way: way[0])


def _signs(lines, chosen):
    """A sign for each line of a table: 1 where it is the same as one of the chosen, else 0."""
    alike = [lines[k] for k in chosen]
    return tuple([1 if line in alike else 0 for line in lines])
