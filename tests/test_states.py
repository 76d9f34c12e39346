"""[34] Papers of the states: what is told, and what is let by of anything."""

import itertools
import unittest
from random import Random

from tellfew.machines import machine_of, reads
from tellfew.statechecks import states_holds
from tellfew.states import states
from tests.things import (a_machine, check_none_of, check_same, check_true, kinds_of, nested, nested_dict, odd_things,
                          of_other_kinds, some_questions, well_known_questions, with_part, words_of_signs)

# Behind 00 and 11 come 01, behind 01 and 10 comes 10.
QUESTION = (3, "01101001")
PAPER = ((("",), ()), (("0", "1"), ("00",)), (("00", "01"), ("0",)), (("000", "001"), ("",)))
# Behind 00 comes 10, behind 01 and 11 comes 00, behind 10 comes 11.
THREE = (3, "10001100")
THREE_PAPER = ((("",), ()), (("0", "1"), ("01",)), (("00", "01", "10"), ("0", "1", "0")), (("000", "001"), ("",)))


def row_of(question, word):
    n, text = question
    answers = dict(zip(words_of_signs(n), text))
    return [answers[word + part] for part in words_of_signs(n - len(word))]


def by_another_hand(chance, question):
    """A paper of the states, others of their words, perhaps fewer, other parts."""
    n = question[0]
    paper = []
    for k in range(n + 1):
        held = {}
        for word in words_of_signs(k):
            held.setdefault(tuple(row_of(question, word)), []).append(word)
        words = [chance.choice(alike) for alike in held.values()]
        words = sorted(chance.sample(words, chance.randint(1, len(words))))
        parts = []
        for one, other in itertools.combinations(words, 2):
            parts.append(chance.choice([part for at, part in enumerate(words_of_signs(n - k))
                                        if row_of(question, one)[at] != row_of(question, other)[at]]))
        paper.append((tuple(words), tuple(parts)))
    return tuple(paper)


class States(unittest.TestCase):

    def test_small_ones(self):
        check_same(self, states(QUESTION), PAPER)
        check_same(self, states(THREE), THREE_PAPER)
        check_same(self, states((1, "00")), ((("",), ()), (("0",), ())))
        check_same(self, states((1, "11")), ((("",), ()), (("0",), ())))
        check_same(self, states((1, "01")), ((("",), ()), (("0", "1"), ("",))))
        check_same(self, states((1, "10")), ((("",), ()), (("0", "1"), ("",))))
        check_same(self, states((2, "0001")), ((("",), ()), (("0", "1"), ("1",)), (("00", "11"), ("",))))

    def test_the_first_words_and_the_first_parts(self):
        for question in some_questions(391, 40) + well_known_questions():
            n = question[0]
            paper = states(question)
            self.assertEqual(len(paper), n + 1)
            for k in range(n + 1):
                words = words_of_signs(k)
                firsts = [word for at, word in enumerate(words)
                          if row_of(question, word) not in [row_of(question, ahead) for ahead in words[:at]]]
                parts = []
                for one, other in itertools.combinations(firsts, 2):
                    pairs = zip(row_of(question, one), row_of(question, other), words_of_signs(n - k))
                    parts.append(min(part for a, b, part in pairs if a != b))
                check_same(self, paper[k], (tuple(firsts), tuple(parts)))

    def test_as_many_words_as_the_machine_has_states(self):
        for question in some_questions(392, 30) + well_known_questions():
            layers, ends = machine_of(question)
            self.assertEqual([len(words) for words, _ in states(question)], [len(part) for part in layers + (ends,)])

    def test_six_signs(self):
        words = words_of_signs(6)
        paper = states((6, "".join(str(int(word == word[::-1])) for word in words)))
        self.assertEqual([len(words) for words, _ in paper], [1, 2, 4, 8, 5, 3, 2])
        self.assertEqual([len(parts) for _, parts in paper], [0, 1, 6, 28, 10, 3, 1])
        check_same(self, paper[6], (("000000", "000001"), ("",)))
        # Sixteen states behind four signs: each two signs behind them have an answer of their own.
        every = (6, "".join("{:04b}".format(k) for k in range(16)))
        check_same(self, len(states(every)[4][0]), 16)
        check_same(self, len(states(every)[4][1]), 120)
        check_true(self, states_holds(every, states(every)))


class StatesHolds(unittest.TestCase):

    def check_none_holds(self, things, question=QUESTION):
        check_none_of(self, lambda thing: states_holds(question, thing), things)

    def test_what_is_told(self):
        for question in some_questions(393, 40) + well_known_questions():
            check_true(self, states_holds(question, states(question)))

    def test_other_words_of_the_same_states(self):
        check_true(self, states_holds(QUESTION, with_part(PAPER, (2,), (("01", "11"), ("1",)))))
        check_true(self, states_holds(QUESTION, with_part(PAPER, (2,), (("00", "10"), ("1",)))))
        check_true(self, states_holds(QUESTION, with_part(PAPER, (3,), (("011", "100"), ("",)))))
        check_true(self, states_holds(THREE, with_part(THREE_PAPER, (2,), (("00", "10", "11"), ("1", "0", "0")))))
        self.check_none_holds([with_part(PAPER, (2,), (("00", "11"), (part,))) for part in ("0", "1")])

    def test_fewer_words(self):
        for word in ("0", "1"):
            check_true(self, states_holds(QUESTION, with_part(PAPER, (1,), ((word,), ()))))
        least = tuple(((("0" * k),), ()) for k in range(4))
        check_true(self, states_holds(QUESTION, least))
        check_true(self, states_holds(THREE, with_part(THREE_PAPER, (2,), (("01", "10"), ("1",)))))

    def test_other_parts(self):
        for part in ("00", "01", "10", "11"):
            check_true(self, states_holds(QUESTION, with_part(PAPER, (1, 1), (part,))))
        check_true(self, states_holds(THREE, with_part(THREE_PAPER, (2, 1), ("0", "1", "1"))))

    def test_by_another_hand(self):
        chance = Random(394)
        for question in some_questions(395, 40) + well_known_questions():
            check_true(self, states_holds(question, by_another_hand(chance, question)))

    def test_all_of_two_signs(self):
        for flat in itertools.product("01", repeat=4):
            question = (2, "".join(flat))
            rest = states(question)
            for one, other in itertools.product(("0", "1"), repeat=2):
                for part in ("0", "1"):
                    rows = row_of(question, one), row_of(question, other)
                    right = one < other and rows[0][int(part)] != rows[1][int(part)]
                    thing = with_part(rest, (1,), ((one, other), (part,)))
                    check_same(self, states_holds(question, thing), right)

    def test_what_is_let_by_is_so(self):
        # No machine that reads the question has fewer states than a paper has words.
        chance = Random(396)
        for _ in range(40):
            n = chance.randint(1, 5)
            machine = a_machine(chance, n, 4)
            question = (n, "".join(str(reads(machine, word)) for word in words_of_signs(n)))
            paper = by_another_hand(chance, question)
            check_true(self, states_holds(question, paper))
            for (words, _), layer in zip(paper, machine[0] + (machine[1],)):
                self.assertLessEqual(len(words), len(layer))

    def test_parts_behind_which_answers_are_alike(self):
        self.check_none_holds([with_part(THREE_PAPER, (1, 1), (part,)) for part in ("00", "10", "11")], THREE)
        self.check_none_holds([with_part(THREE_PAPER, (2, 1), parts) for parts in itertools.product("01", repeat=3)
                               if parts[:2] != ("0", "1")], THREE)
        for question in some_questions(397, 15, 4):
            n, paper = question[0], states(question)
            for k in range(n + 1):
                for at, two in enumerate(itertools.combinations(paper[k][0], 2)):
                    for place, part in enumerate(words_of_signs(n - k)):
                        right = row_of(question, two[0])[place] != row_of(question, two[1])[place]
                        check_same(self, states_holds(question, with_part(paper, (k, 1, at), part)), right)

    def test_words_that_do_not_rise(self):
        self.check_none_holds([with_part(PAPER, (1,), (("1", "0"), ("00",))), with_part(PAPER, (3, 0), ("001", "000")),
                               with_part(PAPER, (1,), (("0", "0"), ("00",))),
                               with_part(PAPER, (0,), (("", ""), ("000",))),
                               with_part(PAPER, (2,), (("01", "00"), ("0",))),
                               with_part(PAPER, (2,), (("10", "01"), ()))])
        self.check_none_holds([with_part(THREE_PAPER, (2,), (("10", "00", "01"), ("1", "0", "0"))),
                               with_part(THREE_PAPER, (2,), (("00", "10", "01"), ("1", "0", "0")))], THREE)

    def test_words_of_another_length(self):
        self.check_none_holds([with_part(PAPER, (0, 0), (word,)) for word in ("0", "1", " ", "00")])
        self.check_none_holds([with_part(PAPER, (1, 0), words)
                               for words in (("", "1"), ("0", "10"), ("00", "1"), ("00", "11"), ("0", "1 "))])
        self.check_none_holds([with_part(PAPER, (1,), ((word,), ())) for word in ("", "00", "01", "000")])
        self.check_none_holds([with_part(PAPER, (1, 1), (part,)) for part in ("", "0", "1", "000", "0000")])
        self.check_none_holds([with_part(PAPER, (3, 1), (part,)) for part in ("0", "1", " ")])
        self.check_none_holds([with_part(PAPER, (2, 1), (part,)) for part in ("", "00", "01")])

    def test_other_signs(self):
        for sign in ("2", " ", "a", "\n", "-", "/", "o"):
            self.check_none_holds([with_part(PAPER, (1, 0), (sign, "1")), with_part(PAPER, (1, 0), ("0", sign)),
                                   with_part(PAPER, (1, 1), ("0" + sign,)), with_part(PAPER, (2, 1), (sign,)),
                                   with_part(PAPER, (1,), ((sign,), ())), with_part(PAPER, (2, 0), ("00", "0" + sign))])

    def test_no_words(self):
        for k in range(4):
            self.check_none_holds([with_part(PAPER, (k,), ((), ())), with_part(PAPER, (k, 0), ()),
                                   with_part(PAPER, (k,), ())])

    def test_too_few_or_too_many_parts(self):
        self.check_none_holds([with_part(PAPER, (0, 1), ("000",)), with_part(PAPER, (0, 1), ("",))])
        for k in (1, 2, 3):
            part = PAPER[k][1][0]
            self.check_none_holds([with_part(PAPER, (k, 1), ()), with_part(PAPER, (k, 1), (part, part))])
        self.check_none_holds([with_part(THREE_PAPER, (2, 1), parts) for parts in (
            (), ("0",), ("0", "1"), ("0", "1", "0", "0"), ("0", "1", "0") * 2)], THREE)

    def test_a_k_too_few_or_too_many(self):
        self.check_none_holds([(), PAPER[:3], PAPER[1:], PAPER + PAPER[3:], PAPER[:1] + PAPER, PAPER[::-1], (PAPER,),
                               PAPER[:2] + PAPER[3:], PAPER + ((("0000",), ()),), PAPER[0], PAPER[1]])
        for n in range(1, 7):
            paper = tuple((("0" * k,), ()) for k in range(4))
            check_same(self, states_holds((n, "01" * 2 ** (n - 1)), paper), n == 3)

    def test_of_other_kinds(self):
        for question, paper in ((QUESTION, PAPER), (THREE, THREE_PAPER)):
            # Among these is each empty text once more.
            others = [thing for thing in of_other_kinds(paper) if kinds_of(thing) != kinds_of(paper)]
            self.check_none_holds(others, question)

    def test_numbers_and_truths_for_words(self):
        for word in (0, 1, True, False, None, (), ("0",), ["0"], {}):
            self.check_none_holds([with_part(PAPER, (1, 0), (word, "1")), with_part(PAPER, (1, 0), ("0", word)),
                                   with_part(PAPER, (1, 1), (word,)), with_part(PAPER, (0, 0), (word,))])
        self.check_none_holds([with_part(PAPER, (1, 0), "01"), with_part(PAPER, (2, 1), "0"),
                               with_part(PAPER, (0, 1), "")])

    def test_of_anything(self):
        self.check_none_holds(odd_things())
        self.check_none_holds(odd_things(), (1, "01"))
        self.check_none_holds(odd_things(), (1, "00"))
        for thing in odd_things() + [nested("0", 26), nested("", 26, list), nested_dict("0", 26), nested(PAPER, 25)]:
            self.check_none_holds([with_part(PAPER, way, thing) for way in ((1,), (1, 0), (3,), (2, 1), (1, 0, 1))])
        for thing in (nested("0", 26), nested_dict("0", 26), nested("0", 26, list)):
            self.check_none_holds([with_part(PAPER, way, thing) for way in ((0,), (0, 0, 0), (2, 0, 1), (2, 1, 0))])

    def test_five_thousand_parts(self):
        self.check_none_holds([with_part(PAPER, (1, 1), ("00",) * 4900), with_part(PAPER, (3, 0), ("000",) * 4900),
                               PAPER * 300, with_part(PAPER, (2, 0), ("~" * 2000, "00"))])

    def test_a_paper_of_another_question(self):
        self.check_none_holds([PAPER], THREE)
        self.check_none_holds([THREE_PAPER])
        self.check_none_holds([PAPER, THREE_PAPER], (3, "00000000"))
        self.check_none_holds([PAPER], (2, "0110"))


if __name__ == "__main__":
    unittest.main()
