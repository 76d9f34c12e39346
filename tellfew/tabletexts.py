"""Tables as texts."""

from tellfew.errors import NoText
from tellfew.figures import read_answer


def show_table(table):
    """The text of a table."""
    return "\n".join([" ".join([str(answer) for answer in row]) for row in table])


def read_table(text):
    """The table that is written just so, else, of anything, NoText comes."""
    if not isinstance(text, str):
        raise NoText("a table is read from a text")
    table = tuple([_read_row(line) for line in text.split("\n")])
    if any(len(row) != len(table[0]) for row in table):
        raise NoText("the rows of a table are of one length")
    return table


def _read_row(line):
    return tuple([read_answer(word) for word in line.split(" ")])
