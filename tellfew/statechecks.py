"""Whether a paper shows that no machine has fewer states, whoever wrote it."""

from tellfew.parting import parted_holds
from tellfew.questions import all_words, cut


def states_holds(question, thing):
    """Whether thing, which may be anything, is a paper of the states of the question."""
    if not isinstance(thing, tuple) or len(thing) != question[0] + 1:
        return False
    return all([_part_holds(question, k, part) for k, part in enumerate(thing)])


def _part_holds(question, k, thing):
    """Whether thing is (words, parts) of a paper at k."""
    if not isinstance(thing, tuple) or len(thing) != 2:
        return False
    words, parts = thing
    if not _are_words(words, k) or not _are_words(parts, question[0] - k):
        return False
    return parted_holds(cut(question, k), (_numbers_of(words, k), _numbers_of(parts, question[0] - k)))


def _are_words(thing, k):
    """Whether thing is a tuple of words of k signs."""
    if not isinstance(thing, tuple) or not all([isinstance(part, str) for part in thing]):
        return False
    return all([len(part) == k and all([sign in "01" for sign in part]) for part in thing])


def _numbers_of(words, k):
    """The numbers of the words among all of k signs, in a tuple."""
    every = all_words(k)
    return tuple([every.index(word) for word in words])
