"""[33] Machines; [35] the words of a machine."""

import itertools
import unittest
from random import Random

from tellfew.likes import numbered, unlike_rows
from tellfew.machines import is_machine, machine_of, reads, words_at
from tellfew.questions import cut
from tests.things import (a_machine, check_none_of, check_same, check_true, nested, nested_dict, odd_things,
                          of_other_kinds, some_questions, well_known_questions, with_part, words_of_signs)

# For words of three signs: layers of one, two and three states, two ends.
MACHINE = ((((0, 1),), ((2, 0), (1, 1)), ((0, 1), (1, 0), (1, 1))), (0, 1))
# To the last state of layer 1, the first and the last of layer 2, and to end 2 nothing leads.
LOOSE = ((((0, 1),), ((2, 1), (1, 2), (0, 3)), ((2, 2), (1, 0), (0, 0), (2, 1))), (1, 0, 0))


def walked(machine, word):
    """The state (end) to which the word leads, by the meaning of [33]."""
    state = 0
    for at, sign in enumerate(word):
        state = machine[0][at][state]["01".index(sign)]
    return state


def a_great_machine(n=6):
    """A machine of sixteen states in each layer but the first one."""
    chance = Random(381)
    sizes = [1] + [16] * n
    layers = tuple(tuple((chance.randrange(after), chance.randrange(after)) for _ in range(size))
                   for size, after in zip(sizes, sizes[1:]))
    return layers, tuple(chance.randrange(2) for _ in range(16))


def some_machines(seed, many):
    chance = Random(seed)
    found = [(3, MACHINE), (3, LOOSE), (6, a_great_machine())]
    for _ in range(many):
        n = chance.randint(1, 6)
        found.append((n, a_machine(chance, n, chance.choice((1, 2, 5, 16)))))
    return found


class IsMachine(unittest.TestCase):

    def check_no_machines(self, things, n=3):
        check_none_of(self, lambda thing: is_machine(n, thing), things)

    def test_machines(self):
        for n, machine in some_machines(382, 40):
            check_true(self, is_machine(n, machine))
        for n in range(1, 7):
            check_true(self, is_machine(n, ((((0, 0),),) * n, (1,))))
        check_true(self, is_machine(1, ((((3, 1),),), (0, 1, 1, 0))))

    def test_a_layer_too_few_or_too_many(self):
        layers, ends = ((((0, 0),),) * 4, (0,))
        for n in range(1, 7):
            check_same(self, is_machine(n, (layers, ends)), n == 4)
        for n in (1, 2, 4, 5, 6):
            self.check_no_machines([MACHINE, LOOSE], n)
        self.check_no_machines([((), (0,)), ((), (1,)), ((), (0, 1))])
        self.check_no_machines([(MACHINE[0][:2], MACHINE[1]), (MACHINE[0][1:], MACHINE[1])], 2)

    def test_the_first_layer_has_one_state(self):
        for first in (((0, 1), (0, 1)), ((0, 1), (1, 0), (0, 0)), ()):
            self.check_no_machines([with_part(MACHINE, (0, 0), first)])
            self.check_no_machines([((first,), (0, 1))], 1)
        self.check_no_machines([((((0, 0),) * 2, ((0, 0),) * 2, ((0, 0),) * 2), (0,))])

    def test_states_of_no_next_layer(self):
        for at, many in enumerate((2, 3, 2)):
            for state in range(len(MACHINE[0][at])):
                for sign in (0, 1):
                    for on in (many, many + 1, -1, -many, 10 ** 39, -(10 ** 39)):
                        self.check_no_machines([with_part(MACHINE, (0, at, state, sign), on)])
        self.check_no_machines([with_part(MACHINE, (1,), (0,)), with_part(MACHINE, (0, 2), MACHINE[0][2][:2])])

    def test_layers_without_states(self):
        self.check_no_machines([((((0, 0),), (), ((0, 0),)), (0,)), (((), (), ()), (0,)), ((((0, 0),), (), ()), (0,)),
                                ((((0, 0),), ((0, 0),), ()), (0, 1)), (((), ((0, 0),), ((0, 0),)), (0,))])

    def test_ends(self):
        check_true(self, is_machine(3, with_part(MACHINE, (1,), (1, 1, 1, 0, 1))))
        for end in (2, -1, True, False, 10 ** 39, "0", "", None, (), (0,), [0], {}):
            self.check_no_machines([with_part(MACHINE, (1, 0), end), with_part(MACHINE, (1, 1), end),
                                    (MACHINE[0], (0, 1, end))])
        self.check_no_machines([(MACHINE[0], ()), ((((0, 0),),), ()), (((),), ()), (MACHINE[0], ((),))])
        self.check_no_machines([((((0, 0),),), ()), (((),), ()), ((), ())], 1)

    def test_truths_for_numbers(self):
        for at in range(3):
            for state in range(len(MACHINE[0][at])):
                self.check_no_machines([with_part(MACHINE, (0, at, state, sign), truth)
                                        for sign in (0, 1) for truth in (True, False)])

    def test_states_of_another_length(self):
        for way in ((0, 0, 0), (0, 1, 1), (0, 2, 2)):
            for state in ((), (0,), (0, 0, 0), (0, 1, 0, 1), ((0, 1),), ((0,), (1,)), 0, "01", None):
                self.check_no_machines([with_part(MACHINE, way, state)])

    def test_parts_missing_or_too_many(self):
        layers, ends = MACHINE
        self.check_no_machines([(), (layers,), (ends,), (ends, layers), MACHINE + ((),), MACHINE + (ends,), (MACHINE,),
                                (layers, layers), (ends, ends), (layers, ends, layers), layers, layers + (ends,)])

    def test_of_other_kinds(self):
        self.check_no_machines(of_other_kinds(MACHINE))
        self.check_no_machines(of_other_kinds(((((0, 1),),), (1, 0))), 1)

    def test_of_anything(self):
        for n in (1, 3, 6):
            self.check_no_machines(odd_things(), n)
        for thing in odd_things() + [nested((0, 0), 26), nested(0, 26, list), nested_dict(0, 26), nested(MACHINE, 25)]:
            self.check_no_machines([with_part(MACHINE, way, thing) for way in ((0,), (0, 1), (0, 0, 0, 0), (1, 0))
                                    if thing not in (0, 1)])
        self.check_no_machines([((((0, 0),) * 1600,) * 3, (0,)), ((((0, 0),), ((0, 0),) * 1600, ((0, 5),)), (0, 1)),
                                (MACHINE[0], tuple(range(4900))), (MACHINE[0] * 100, (0, 1))])

    def test_very_many_states_and_ends(self):
        check_true(self, is_machine(1, ((((4000, 3999),),), (0, 1) * 2400)))
        check_true(self, is_machine(2, ((((1500, 0),), ((0, 0),) * 1501), (1,))))


class Reads(unittest.TestCase):

    def test_each_word(self):
        check_same(self, [reads(MACHINE, word) for word in words_of_signs(3)], [1, 1, 0, 1, 1, 0, 1, 0])
        check_same(self, [reads(LOOSE, word) for word in words_of_signs(3)], [1, 1, 0, 1, 0, 1, 1, 1])

    def test_one_sign(self):
        for ends in itertools.product((0, 1), repeat=2):
            for state in itertools.product((0, 1), repeat=2):
                machine = (((state,),), ends)
                check_same(self, [reads(machine, "0"), reads(machine, "1")], [ends[state[0]], ends[state[1]]])

    def test_by_its_meaning(self):
        for n, machine in some_machines(383, 40):
            for word in words_of_signs(n):
                check_same(self, reads(machine, word), machine[1][walked(machine, word)])


class MachineOf(unittest.TestCase):

    def test_small_ones(self):
        check_same(self, machine_of((1, "01")), ((((0, 1),),), (0, 1)))
        check_same(self, machine_of((1, "10")), ((((0, 1),),), (1, 0)))
        check_same(self, machine_of((1, "00")), ((((0, 0),),), (0,)))
        check_same(self, machine_of((1, "11")), ((((0, 0),),), (1,)))
        check_same(self, machine_of((2, "0110")), ((((0, 1),), ((0, 1), (1, 0))), (0, 1)))
        check_same(self, machine_of((2, "1101")), ((((0, 1),), ((0, 0), (1, 0))), (1, 0)))
        check_same(self, machine_of((2, "0101")), ((((0, 0),), ((0, 1),)), (0, 1)))

    def test_states_numbered_as_they_come(self):
        check_same(self, machine_of((3, "01101001")), ((((0, 1),), ((0, 1), (1, 0)), ((0, 1), (1, 0))), (0, 1)))
        # The rows behind two signs are 10, 00, 11, 00.
        check_same(self, machine_of((3, "10001100")), ((((0, 1),), ((0, 1), (2, 1)), ((0, 1), (1, 1), (0, 0))), (1, 0)))

    def test_six_signs(self):
        words = words_of_signs(6)
        odd = (6, "".join(str(word.count("1") % 2) for word in words))
        self.assertEqual([len(layer) for layer in machine_of(odd)[0]], [1, 2, 2, 2, 2, 2])
        palindromes = (6, "".join(str(int(word == word[::-1])) for word in words))
        self.assertEqual([len(layer) for layer in machine_of(palindromes)[0]], [1, 2, 4, 8, 5, 3])
        every = (6, "".join("{:016b}".format(k * 4099 % 65536) for k in range(4)))
        self.assertEqual(len(machine_of(every)[0][2]), 4)

    def test_by_its_meaning(self):
        for n, text in some_questions(384, 60) + well_known_questions():
            layers, ends = machine = machine_of((n, text))
            check_true(self, is_machine(n, machine))
            self.assertEqual("".join(str(reads(machine, word)) for word in words_of_signs(n)), text)
            for k in range(n + 1):
                table = cut((n, text), k)
                self.assertEqual(len((layers + (ends,))[k]), len(unlike_rows(table)))
                check_same(self, words_at(machine, k), numbered(table))

    def test_no_machine_has_fewer_states(self):
        # Whatever machine reads the question, words of unlike rows lead to states of their own.
        chance = Random(385)
        for _ in range(60):
            n = chance.randint(1, 5)
            machine = a_machine(chance, n, 6)
            question = (n, "".join(str(reads(machine, word)) for word in words_of_signs(n)))
            least = machine_of(question)
            for k in range(n + 1):
                self.assertLessEqual(len((least[0] + (least[1],))[k]), len((machine[0] + (machine[1],))[k]))


class WordsAt(unittest.TestCase):

    def test_small_ones(self):
        check_same(self, words_at(MACHINE, 0), (0,))
        check_same(self, words_at(MACHINE, 1), (0, 1))
        check_same(self, words_at(MACHINE, 2), (2, 0, 1, 1))
        check_same(self, words_at(MACHINE, 3), (1, 1, 0, 1, 1, 0, 1, 0))

    def test_states_to_which_nothing_leads(self):
        check_same(self, words_at(LOOSE, 0), (0,))
        check_same(self, words_at(LOOSE, 1), (0, 1))
        check_same(self, words_at(LOOSE, 2), (2, 1, 1, 2))
        check_same(self, words_at(LOOSE, 3), (0, 0, 1, 0, 1, 0, 0, 0))
        check_same(self, words_at(((((5, 5),),), (0, 1) * 4), 1), (5, 5))

    def test_by_its_meaning(self):
        for n, machine in some_machines(386, 40):
            for k in range(n + 1):
                check_same(self, words_at(machine, k), tuple(walked(machine, word) for word in words_of_signs(k)))

    def test_words_that_lead_to_one_state_have_one_row(self):
        for n, machine in some_machines(387, 40):
            question = (n, "".join(str(reads(machine, word)) for word in words_of_signs(n)))
            for k in range(n + 1):
                rows = {}
                for state, row in zip(words_at(machine, k), cut(question, k)):
                    self.assertEqual(rows.setdefault(state, row), row)


if __name__ == "__main__":
    unittest.main()
