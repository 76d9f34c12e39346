"""Fair words: draws of tellings by few words that are wrong no oftener than must be, at whatever pair."""

from tellfew.errors import TooGreat
from tellfew.games import fair
from tellfew.leastwrong import least_wrong
from tellfew.tables import in_rows
from tellfew.words import told_by

# So many rows, and so many columns, a table has at most, alike ones too.
MOST_ROWS = 4
MOST_COLS = 3


def fair_words(table, many):
    """(value, draws, weights): a paper of fair words by at most many words, else TooGreat comes."""
    if len(table) > MOST_ROWS or len(table[0]) > MOST_COLS:
        raise TooGreat("more than four rows or three columns")
    # It is a game: one asks a pair, another one draws a telling. Of the many tellings one more is taken only while it
    # is wrong by less than the value with those ahead; where none is, no telling would change that value.
    weights = tuple([(1,) * len(row) for row in table])
    tellings = [least_wrong(table, weights, many)[1]]
    while True:
        value, asked, drawn = fair(_game(table, tellings))
        weights = in_rows(asked, len(table[0]))
        least, telling = least_wrong(table, weights, many)
        if least * value[1] >= value[0] * sum(asked):
            return value, tuple([(weight, one) for weight, one in zip(drawn, tellings) if weight > 0]), weights
        tellings.append(telling)


def _game(table, tellings):
    """A row for each pair, a column for each telling: 1 where it is wrong, else 0."""
    return tuple([tuple([1 if told_by(telling, i, j) != answer else 0 for telling in tellings])
                  for i, row in enumerate(table) for j, answer in enumerate(row)])
