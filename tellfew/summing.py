"""Summing machines by a prime: what a word is worth to them."""

from tellfew.kinds import are_numbers, are_rows
from tellfew.machines import states_of
from tellfew.questions import all_words
from tellfew.tables import in_rows


def is_summing(n, p, thing):
    """Whether thing, which may be anything, is a summing machine by the prime p for words of n signs."""
    if not isinstance(thing, tuple) or len(thing) != 3:
        return False
    first, layers, last = thing
    if not _are_rests(first, p) or not _are_rests(last, p) or not isinstance(layers, tuple) or len(layers) != n:
        return False
    if not all([_is_layer(layer, p) for layer in layers]):
        return False
    due = len(first)
    for (rows, _), size in zip(layers, sizes_of(thing)[1:]):
        if len(rows) != due:
            return False
        # Behind a layer without rows there may be any number.
        due = len(rows[0]) if len(rows) > 0 else size
    return due == len(last)


def worth(p, machine, word):
    """What the word is worth to the summing machine by the prime p."""
    numbers, layers, last = machine
    for layer, sign, size in zip(layers, word, sizes_of(machine)[1:]):
        numbers = _summed_rows(p, numbers, layer[int(sign)], size)
    return sum([number * times for number, times in zip(numbers, last)]) % p


def sizes_of(machine):
    """How many rows each layer of a summing machine has, and how many numbers last has."""
    _, layers, last = machine
    return tuple([len(rows) for rows, _ in layers] + [len(last)])


def summed(machine):
    """The summing machine, by any prime, that is made of a machine: its states, and worth what it reads."""
    layers, ends = machine
    sizes = states_of(machine)
    made = tuple([tuple([_steps(layer, sign, size) for sign in range(2)]) for layer, size in zip(layers, sizes[1:])])
    return (1,), made, ends


def sum_cut(p, machine, k):
    """The table of worths: rows the words of k signs, columns those of the signs behind them."""
    n = len(machine[1])
    return in_rows(tuple([worth(p, machine, word) for word in all_words(n)]), 1 << (n - k))


def _are_rests(thing, p):
    """Whether thing is a tuple, perhaps (), of numbers from 0 on, below p."""
    return isinstance(thing, tuple) and are_numbers(thing, len(thing), p)


def _is_layer(thing, p):
    """Whether thing is two tuples of as many rows, all of one length, of numbers from 0 on, below p."""
    if not isinstance(thing, tuple) or len(thing) != 2 or not all([isinstance(rows, tuple) for rows in thing]):
        return False
    count = len(thing[0])
    if count == 0:
        return len(thing[1]) == 0
    row = thing[0][0]
    return isinstance(row, tuple) and all([are_rows(rows, count, len(row), p) for rows in thing])


def _summed_rows(p, numbers, rows, size):
    """The rows, each of that size, each as often as its number tells, summed: their rests by p."""
    return tuple([sum([number * row[at] for number, row in zip(numbers, rows)]) % p for at in range(size)])


def _steps(layer, sign, size):
    """For each state of the layer a row of that size with 1 where it goes on at the sign."""
    return tuple([tuple([1 if at == state[sign] else 0 for at in range(size)]) for state in layer])
