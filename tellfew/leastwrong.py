"""Tellings by few words that are wrong with the least weight."""

from tellfew.errors import TooGreat

# So many rows a table has at most, alike ones too.
MOST_ROWS = 6


def least_wrong(table, weights, many):
    """(weight, telling), a telling by at most many words whose wrong pairs have the least weight together."""
    if len(table) > MOST_ROWS:
        raise TooGreat("more than six rows")
    known = {}
    found = []
    for words in _all_words(len(table), many):
        groups = [tuple([i for i, word in enumerate(words) if word == w]) for w in range(max(words) + 1)]
        for rows in groups:
            if rows not in known:
                known[rows] = _voted(table, weights, rows)
        weight = sum([known[rows][0] for rows in groups])
        found.append((weight, (words, tuple([known[rows][1] for rows in groups]))))
    return min(found)


def _all_words(m, many):
    """All words that m rows may be told by, of at most many, numbered as they come."""
    ways = [()]
    for _ in range(m):
        ways = [(*words, word) for words in ways for word in range(min(many, max(words, default=-1) + 2))]
    return ways


def _voted(table, weights, rows):
    """(weight, answers): the answers that are wrong with the least weight where these rows have one word."""
    votes = [_vote(table, weights, rows, j) for j in range(len(table[0]))]
    return sum([vote[0] for vote in votes]), tuple([vote[1] for vote in votes])


def _vote(table, weights, rows, j):
    """(weight, answer): the answer of column j that is wrong with the least weight at these rows."""
    held = {}
    for i in rows:
        held[table[i][j]] = held.get(table[i][j], 0) + weights[i][j]
    total = sum(held.values())
    return min([(total - held[answer], answer) for answer in sorted(held)])
