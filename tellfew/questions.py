"""Questions of words of signs, and their cuts."""

from tellfew.kinds import is_whole
from tellfew.tables import in_rows

# So many signs a word has at most.
MOST_SIGNS = 6


def is_question(thing):
    """Whether thing, which may be anything, is a question."""
    if not isinstance(thing, tuple) or len(thing) != 2:
        return False
    n, text = thing
    if not is_whole(n) or not 1 <= n <= MOST_SIGNS or not isinstance(text, str):
        return False
    return len(text) == 1 << n and all(sign in "01" for sign in text)


def cut(question, k):
    """The table of the question's answers: rows the words of k signs, columns those of the signs behind them."""
    n, text = question
    return in_rows(tuple([int(sign) for sign in text]), 1 << (n - k))


def all_words(k):
    """The words of k signs, rising."""
    words = [""]
    for _ in range(k):
        words = [word + sign for word in words for sign in "01"]
    return words
