"""Whether a paper shows the rank of a table, whoever wrote it."""

from tellfew.determinants import is_nought, stands
from tellfew.kinds import are_rising, is_whole
from tellfew.tables import part_of


def ranked_holds(table, p, thing):
    """Whether thing, which may be anything, is a paper of the table's rank by p, which is 0 or a prime."""
    if not isinstance(thing, tuple) or len(thing) != 3:
        return False
    rows, cols, sums = thing
    if not are_rising(rows, len(table)) or not are_rising(cols, len(table[0])) or len(rows) != len(cols):
        return False
    if not isinstance(sums, tuple) or len(sums) != len(table) or not stands(part_of(table, rows, cols), p):
        return False
    taken = [table[i] for i in rows]
    return all([_is_sum(part, len(rows)) and _makes(part, taken, row, p) for part, row in zip(sums, table)])


def _is_sum(thing, count):
    """Whether thing is (d, some), some of that count."""
    if not isinstance(thing, tuple) or len(thing) != 2:
        return False
    d, some = thing
    if not is_whole(d) or not isinstance(some, tuple) or len(some) != count:
        return False
    return all(is_whole(number) for number in some)


def _makes(part, taken, row, p):
    """Whether part is (d, some), d not nought, so that d times the row is the sum of some times the rows taken."""
    d, some = part
    if is_nought(d, p):
        return False
    for j, answer in enumerate(row):
        made = sum([times * other[j] for times, other in zip(some, taken)])
        if not is_nought(d * answer - made, p):
            return False
    return True
