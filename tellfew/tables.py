"""Tables: what they are, turned about, and their parts."""

from tellfew.kinds import ANSWERS, are_numbers


def is_table(thing):
    """Whether thing, which may be anything, is a table."""
    if not isinstance(thing, tuple) or len(thing) == 0:
        return False
    first = thing[0]
    if not isinstance(first, tuple) or len(first) == 0:
        return False
    return all(are_numbers(row, len(first), ANSWERS) for row in thing)


def turned(table):
    """The table that has the columns of this one for rows."""
    return tuple(zip(*table))


def part_of(table, rows, cols):
    """The part of the table that has just these rows and columns."""
    return tuple([tuple([table[i][j] for j in cols]) for i in rows])


def in_rows(numbers, n):
    """The numbers in rows of n."""
    return tuple([numbers[at:at + n] for at in range(0, len(numbers), n)])
