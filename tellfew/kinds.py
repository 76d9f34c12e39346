"""What kind of thing a thing is, asked of anything."""

# An answer is a whole number from 0 on, below this.
ANSWERS = 100
# The greatest prime by which ranks are told, and the greatest number of words that least wrong and fair words take.
GREATEST_PRIME = 97
MOST_WORDS = 12


def is_whole(thing):
    """Whether thing is a whole number."""
    return isinstance(thing, int) and not isinstance(thing, bool)


def is_number(thing, many):
    """Whether thing is a whole number from 0 on, below many."""
    return is_whole(thing) and 0 <= thing < many


def is_prime(thing):
    """Whether thing is a prime to 97."""
    if not is_whole(thing) or not 2 <= thing <= GREATEST_PRIME:
        return False
    return all(thing % divisor != 0 for divisor in range(2, thing))


def is_nought_or_prime(thing):
    """Whether thing is what ranks are told by: 0 or a prime to 97."""
    return is_prime(thing) or (is_whole(thing) and thing == 0)


def is_many(thing):
    """Whether thing is how many words least wrong and fair words take at most: from 1 to 12."""
    return is_whole(thing) and 1 <= thing <= MOST_WORDS


def are_numbers(thing, count, many):
    """Whether thing is a tuple of count whole numbers from 0 on, below many."""
    if not isinstance(thing, tuple) or len(thing) != count:
        return False
    return all(is_number(part, many) for part in thing)


def are_rows(thing, m, n, many):
    """Whether thing is a tuple of m rows of n whole numbers from 0 on, below many."""
    if not isinstance(thing, tuple) or len(thing) != m:
        return False
    return all(are_numbers(row, n, many) for row in thing)


def are_rising(thing, many):
    """Whether thing is a tuple of rising whole numbers from 0 on, below many."""
    if not isinstance(thing, tuple) or not are_numbers(thing, len(thing), many):
        return False
    return all(thing[k] < thing[k + 1] for k in range(len(thing) - 1))


def are_counts(thing, count):
    """Whether thing is a tuple of count whole numbers from 0 on, not all 0."""
    if not isinstance(thing, tuple) or len(thing) != count:
        return False
    return all(is_whole(part) and part >= 0 for part in thing) and any(part > 0 for part in thing)
