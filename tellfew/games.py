"""Games: the one fair value, with what is asked and what is drawn for it."""

from tellfew.fractions import lessened, lowest
from tellfew.kinds import is_whole


def is_game(thing):
    """Whether thing, which may be anything, is a game."""
    if not isinstance(thing, tuple) or len(thing) == 0 or not all([isinstance(row, tuple) for row in thing]):
        return False
    n = len(thing[0])
    return n > 0 and all([len(row) == n and all([is_whole(part) and part >= 0 for part in row]) for row in thing])


def fair(game):
    """(value, asked, drawn): a paper of the game's value."""
    # Sought is the most that all columns can be drawn together while no row loses more than 1: the value is 1 divided
    # by it. So that the value is above 0, each number of the game is 1 greater here.
    m, n = len(game), len(game[0])
    rows = _first_rows(game)
    held = [n + i for i in range(m)]
    divisor = 1
    col = _col_to_take(rows[-1])
    while col is not None:
        at = _row_to_leave(rows, held, col)
        _clear_others(rows, at, col, divisor)
        held[at], divisor = col, rows[at][col]
        col = _col_to_take(rows[-1])
    drawn = [0] * (n + m)
    for i, j in enumerate(held):
        drawn[j] = rows[i][-1]
    value = lowest(divisor - rows[-1][-1], rows[-1][-1])
    return value, lessened(rows[-1][n:-1]), lessened(drawn[:n])


def _first_rows(game):
    """A row for each row of the game, and one for what is sought: the columns, what is left to each row, the bound."""
    m, n = len(game), len(game[0])
    rows = []
    for i, row in enumerate(game):
        rows.append([number + 1 for number in row] + [1 if k == i else 0 for k in range(m)] + [1])
    rows.append([-1] * n + [0] * (m + 1))
    return rows


def _col_to_take(sought):
    """The first column by which what is sought grows, else None."""
    # Always the first one, and the first of those that may leave (Bland): so nothing comes round again.
    for col, number in enumerate(sought):
        if number < 0:
            return col
    return None


def _row_to_leave(rows, held, col):
    """The row whose bound is reached first by what is taken."""
    best = None
    for i in range(len(held)):
        if rows[i][col] <= 0:
            continue
        if best is None:
            best = i
            continue
        one, other = rows[i][-1] * rows[best][col], rows[best][-1] * rows[i][col]
        if one < other or (one == other and held[i] < held[best]):
            best = i
    return best


def _clear_others(rows, at, col, divisor):
    # All numbers are over one divisor, the last one taken; each is itself a determinant, so no rest is left.
    taken = rows[at]
    for i in range(len(rows)):
        if i != at:
            times = rows[i][col]
            rows[i] = [(one * taken[col] - times * two) // divisor for one, two in zip(rows[i], taken)]
