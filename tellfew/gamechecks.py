"""Whether a paper shows the value of a game, whoever wrote it."""

from tellfew.fractions import is_fraction
from tellfew.kinds import are_counts
from tellfew.tables import turned


def fair_holds(game, thing):
    """Whether thing, which may be anything, is a paper of the game's value."""
    if not isinstance(thing, tuple) or len(thing) != 3:
        return False
    value, asked, drawn = thing
    if not is_fraction(value) or not are_counts(asked, len(game)) or not are_counts(drawn, len(game[0])):
        return False
    top, bottom = value
    most = max([_summed(row, drawn) for row in game])
    least = min([_summed(col, asked) for col in turned(game)])
    return most * bottom <= top * sum(drawn) and least * bottom >= top * sum(asked)


def _summed(numbers, shares):
    return sum([number * share for number, share in zip(numbers, shares)])
