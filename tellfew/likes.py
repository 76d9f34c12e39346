"""Which things are the same: numbers as they come, unlike rows and columns."""

from tellfew.tables import turned


def numbered(things):
    """The numbers of things as they come, in a tuple."""
    # Things may be nested deeper than the key of a dict may be, so they are looked up in a list.
    unlike = []
    numbers = []
    for thing in things:
        if thing not in unlike:
            unlike.append(thing)
        numbers.append(unlike.index(thing))
    return tuple(numbers)


def unlike_rows(table):
    """The numbers of the rows that are the same as no row ahead, rising."""
    return tuple([i for i, row in enumerate(table) if row not in table[:i]])


def unlike_cols(table):
    """The numbers of the columns that are the same as no column ahead, rising."""
    return unlike_rows(turned(table))
