"""Triples that are shut: those that come to one end of a tree of three are so."""


def is_shut(triples):
    """Whether the rising tuple of triples is shut."""
    return shut_up(triples) == triples


def shut_up(triples):
    """The least shut tuple with all of the triples, rising."""
    # What is added has only pairs that triples have already, so that nothing more is to be added for it.
    seen_by_0 = {(y, z): True for _, y, z in triples}
    seen_by_1 = {(x, z): True for x, _, z in triples}
    seen_by_2 = sorted({(x, y) for x, y, _ in triples})
    zs = sorted({z for _, _, z in triples})
    return tuple([(x, y, z) for x, y in seen_by_2 for z in zs if (y, z) in seen_by_0 and (x, z) in seen_by_1])
