"""Papers of the states, which show that no machine has fewer."""

from tellfew.parting import parted
from tellfew.questions import all_words, cut


def states(question):
    """The paper of the first words of all states, with the first parts behind which they have unlike answers."""
    return tuple([_part_of_paper(question, k) for k in range(question[0] + 1)])


def _part_of_paper(question, k):
    """(words, parts) of the paper at k."""
    words, ends = all_words(k), all_words(question[0] - k)
    rows, cols = parted(cut(question, k))
    return tuple([words[i] for i in rows]), tuple([ends[j] for j in cols])
