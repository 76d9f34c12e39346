"""Machines that read words sign by sign."""

from tellfew.kinds import are_numbers, are_rows
from tellfew.likes import numbered, unlike_rows
from tellfew.questions import cut


def is_machine(n, thing):
    """Whether thing, which may be anything, is a machine for words of n signs."""
    if not isinstance(thing, tuple) or len(thing) != 2:
        return False
    layers, ends = thing
    if not isinstance(layers, tuple) or len(layers) != n or not all([isinstance(layer, tuple) for layer in layers]):
        return False
    if not isinstance(ends, tuple) or len(ends) == 0 or not are_numbers(ends, len(ends), 2):
        return False
    sizes = states_of(thing)
    return sizes[0] == 1 and all([are_rows(layer, len(layer), 2, size) for layer, size in zip(layers, sizes[1:])])


def states_of(machine):
    """How many states each layer has, and how many ends there are."""
    layers, ends = machine
    return tuple([len(layer) for layer in layers] + [len(ends)])


def reads(machine, word):
    """The answer to which the machine reads the word."""
    layers, ends = machine
    state = 0
    for layer, sign in zip(layers, word):
        state = layer[state][int(sign)]
    return ends[state]


def machine_of(question):
    """The machine that reads the question with the fewest states in each layer."""
    n, _ = question
    cuts = [cut(question, k) for k in range(n + 1)]
    layers = tuple([_layer(table, numbered(after)) for table, after in zip(cuts, cuts[1:])])
    return layers, tuple([cuts[n][i][0] for i in unlike_rows(cuts[n])])


def words_at(machine, k):
    """For each word of k signs, rising, the state that it leads to, in a tuple."""
    layers, _ = machine
    states = (0,)
    for layer in layers[:k]:
        states = tuple([on for state in states for on in layer[state]])
    return states


def _layer(table, numbers):
    """The states of the table's unlike rows; numbers has those of the words that are one sign longer."""
    return tuple([numbers[2 * i:2 * i + 2] for i in unlike_rows(table)])
