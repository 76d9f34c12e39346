"""Whole numbers as words of figures."""

from tellfew.errors import NoText

# So many figures the greatest answer has.
ANSWER_FIGURES = 2


def is_figures(word):
    """Whether word is a whole number in figures, without noughts ahead."""
    if word == "" or (word[0] == "0" and word != "0"):
        return False
    return all(sign in "0123456789" for sign in word)


def read_answer(word):
    """The answer that word tells in figures, else NoText comes."""
    # The length goes first: Python refuses to make a number of very many figures.
    if len(word) > ANSWER_FIGURES or not is_figures(word):
        raise NoText("an answer is a number from 0 to 99 in figures")
    return int(word)


def read_number(word):
    """The whole number that word tells in figures, however many, else NoText comes."""
    if not is_figures(word):
        raise NoText("a number is written in figures")
    # Sign by sign: Python refuses to make a number of very many figures at once.
    number = 0
    for sign in word:
        number = 10 * number + int(sign)
    return number
