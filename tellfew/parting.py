"""Papers of rows that are parted two by two, which show that no right telling has fewer words."""

from tellfew.kinds import are_numbers, are_rising
from tellfew.likes import unlike_rows


def each_two(things):
    """Each two of things: first and second, first and third, .., second and third, .."""
    return [(one, other) for at, one in enumerate(things) for other in things[at + 1:]]


def parted(table):
    """The paper of all unlike rows of the table, with the first columns that part them."""
    rows = unlike_rows(table)
    return rows, tuple([_first_unlike(table[i], table[k]) for i, k in each_two(rows)])


def parted_holds(table, thing):
    """Whether thing, which may be anything, is a paper of parted rows of the table."""
    if not isinstance(thing, tuple) or len(thing) != 2:
        return False
    rows, cols = thing
    if not are_rising(rows, len(table)) or len(rows) == 0:
        return False
    twos = each_two(rows)
    if not are_numbers(cols, len(twos), len(table[0])):
        return False
    return all([table[i][j] != table[k][j] for (i, k), j in zip(twos, cols)])


def _first_unlike(row, other):
    return min([j for j, answer in enumerate(row) if other[j] != answer])
