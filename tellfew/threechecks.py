"""Whether a paper shows that no right telling of three has fewer words, whoever wrote it."""

from tellfew.cubes import table_at
from tellfew.kinds import is_number
from tellfew.parting import parted_holds


def said_parted_holds(cube, thing):
    """Whether thing, which may be anything, is a paper of parted ys of the cube."""
    if not isinstance(thing, tuple) or len(thing) != 3 or not is_number(thing[0], len(cube[0][0])):
        return False
    return parted_holds(table_at(cube, thing[0]), thing[1:])
