"""Determinants, and what stands by 0 or a prime."""


def determinant(part):
    """The determinant of as many rows as each has whole numbers; of none it is 1."""
    rows = [list(row) for row in part]
    sign, divisor = 1, 1
    for k in range(len(rows)):
        at = _row_to_take(rows, k)
        if at is None:
            return 0
        if at != k:
            rows[k], rows[at] = rows[at], rows[k]
            sign = -sign
        _clear_below(rows, k, divisor)
        divisor = rows[k][k]
    return sign * divisor


def stands(part, p):
    """Whether the part stands by p, which is 0 or a prime."""
    return not is_nought(determinant(part), p)


def is_nought(number, p):
    """Whether the number is nought by p: 0, or by a prime a multiple of it."""
    return rest(number, p) == 0


def rest(number, p):
    """The number's rest by a prime; by 0 the number itself."""
    return number if p == 0 else number % p


def _row_to_take(rows, k):
    """The first row from k on with a number other than 0 at k, else None."""
    for at in range(k, len(rows)):
        if rows[at][k] != 0:
            return at
    return None


def _clear_below(rows, k, divisor):
    # Each number here is itself a determinant (Bareiss), so that dividing by the last one taken leaves no rest.
    for i in range(k + 1, len(rows)):
        for j in range(k + 1, len(rows)):
            rows[i][j] = (rows[i][j] * rows[k][k] - rows[i][k] * rows[k][j]) // divisor
