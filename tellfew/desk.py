"""A desk: a stand that is told rows of words."""

from tellfew.errors import NoRow, NoText, TooGreat, Wrong
from tellfew.fairwords import fair_words
from tellfew.figures import read_answer, read_number
from tellfew.kinds import is_many, is_nought_or_prime
from tellfew.ranks import ranked
from tellfew.stands import Stand
from tellfew.tabletexts import read_table
from tellfew.words import is_telling, told_by

# So many rows and columns a table has at most, and so many words a telling.
MOST = 12


class Desk:
    """Has a stand, and answers rows."""

    def __init__(self):
        self._stand = Stand()

    def say(self, text):
        """The answer to a row; what is no such row, of anything, is refused with NoRow, the rest as the stand does."""
        if not isinstance(text, str):
            raise NoRow("a row is a text")
        word, *words = text.split(" ")
        if word not in ROWS:
            raise NoRow("no row begins with that word")
        answer = ROWS[word]
        try:
            return answer(self._stand, words)
        except NoText as why:
            raise NoRow("what is written there is not what such a row has") from why


def _put(stand, words):
    table = _read_table(words[1:])
    stand.put(words[0], table)
    return "ok"


def _more(stand, words):
    table = _read_table(words[1:])
    if len(table) != 1:
        raise NoRow("more than one row")
    stand.more(words[0], table[0])
    return "ok"


def _change(stand, words):
    name, i, j, answer = _so_many(words, 4)
    pair = read_number(i), read_number(j)
    stand.change(name, pair, read_answer(answer))
    return "ok"


def _drop(stand, words):
    name = _so_many(words, 1)[0]
    stand.drop(name)
    return "ok"


def _keep(stand, words):
    telling = _read_telling(words[1:])
    try:
        stand.keep(words[0], telling)
    except Wrong as wrong:
        return f"wrong {wrong.row} {wrong.column}"
    return "ok"


def _back(stand, words):
    stand.back(read_number(_so_many(words, 1)[0]))
    return "ok"


def _few(stand, words):
    name = _so_many(words, 1)[0]
    rows, cols = stand.fewest(name)
    return f"{rows} {cols}"


def _rank(stand, words):
    name, number = _so_many(words, 2)
    p = read_number(number)
    if not is_nought_or_prime(p):
        raise NoRow("no prime to 97, and not 0")
    return str(len(ranked(stand.table(name), p)[0]))


def _ask(stand, words):
    name, row, col = _so_many(words, 3)
    i, j = read_number(row), read_number(col)
    table = stand.table(name)
    if i >= len(table) or j >= len(table[0]):
        raise NoRow("no such pair")
    tellings = stand.kept(name)
    if len(tellings) == 0:
        return "none"
    return f"{tellings[0][0][i]} {told_by(tellings[0], i, j)}"


def _kept(stand, words):
    name = _so_many(words, 1)[0]
    return str(len(stand.kept(name)))


def _fair(stand, words):
    name, number = _so_many(words, 2)
    many = read_number(number)
    if not is_many(many):
        raise NoRow("not from 1 to 12 words")
    table = stand.table(name)
    try:
        top, bottom = fair_words(table, many)[0]
    except TooGreat:
        return "too great"
    return f"{top}/{bottom}"


def _gone(stand, words):
    _so_many(words, 0)
    return str(stand.gone())


def _so_many(words, count):
    """The words behind the first one of a row, where there are so many, else NoRow comes."""
    if len(words) != count:
        raise NoRow("too few or too many words")
    return words


def _read_table(words):
    """The table that the words tell, `/` between its rows, else NoText or NoRow comes."""
    text = " ".join(words)
    # Line ends are not written so in a row.
    if "\n" in text:
        raise NoRow("a line end in a table")
    table = read_table(text.replace(" / ", "\n"))
    if len(table) > MOST or len(table[0]) > MOST:
        raise NoRow("more than twelve rows or columns")
    return table


def _read_telling(words):
    """The telling that the words tell, `:` between words and answers, else NoText or NoRow comes."""
    if ":" not in words:
        raise NoRow("no words and answers")
    at = words.index(":")
    told = tuple([read_number(word) for word in words[:at]])
    answers = _read_table(words[at + 1:])
    if not 1 <= len(told) <= MOST or not is_telling(len(told), len(answers[0]), (told, answers)):
        raise NoRow("no telling")
    return told, answers


# What answers a row, by its first word.
ROWS = {"put": _put, "more": _more, "change": _change, "drop": _drop, "keep": _keep, "back": _back, "few": _few,
        "rank": _rank, "ask": _ask, "kept": _kept, "fair": _fair, "gone": _gone}
