"""Own tellings: who knows the row draws a word alone, by shares."""

from tellfew.fractions import lowest


def own_of(draws):
    """The own telling that draws in common lead to, as often wrong at each pair."""
    m = len(draws[0][1][0])
    return tuple([_shares(draws, i) for i in range(m)]), tuple([row for _, telling in draws for row in telling[1]])


def own_wrong(table, own):
    """For each pair, in a tuple of rows, the fraction by which the own telling is wrong there."""
    shares, answers = own
    return tuple([tuple([_wrong_by(shares[i], [told[j] for told in answers], answer) for j, answer in enumerate(row)])
                  for i, row in enumerate(table)])


def _shares(draws, i):
    """The shares of row i: a draw's weight at the word that its telling has for the row, else 0."""
    return tuple([weight if words[i] == word else 0
                  for weight, (words, answers) in draws for word in range(len(answers))])


def _wrong_by(shares, told, answer):
    """The fraction of the shares whose words tell another answer."""
    return lowest(sum([share for share, other in zip(shares, told) if other != answer]), sum(shares))
