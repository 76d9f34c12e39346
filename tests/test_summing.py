"""[36] Summing machines; [37] those that are made of a machine."""

import unittest
from random import Random

from tellfew.machines import machine_of, reads
from tellfew.ranks import ranked
from tellfew.summing import is_summing, sizes_of, sum_cut, summed, worth
from tellfew.tables import is_table
from tests.things import (PRIMES, a_machine, a_table, check_none_of, check_same, check_true, nested, nested_dict,
                          odd_things, of_other_kinds, some_questions, well_known_questions, with_part, words_of_signs)

# By 5 and up, for words of two signs: two rows, then three, two numbers at last.
SUMMING = ((1, 2), (
    (((1, 0, 2), (0, 1, 0)), ((3, 0, 0), (0, 0, 4))),
    (((1, 1), (0, 2), (3, 0)), ((0, 0), (4, 1), (1, 1)))), (2, 3))


def worth_by_its_meaning(p, machine, word):
    numbers, layers, last = machine
    sizes = [len(layer[0]) for layer in layers] + [len(last)]
    for at, sign in enumerate(word):
        after = [0] * sizes[at + 1]
        for number, row in zip(numbers, layers[at]["01".index(sign)]):
            for place, one in enumerate(row):
                after[place] += number * one
        numbers = after
    return sum(number * one for number, one in zip(numbers, last)) % p


def a_summing(chance, n, p, sizes):
    """A summing machine by p of these sizes."""
    first = tuple(chance.randrange(p) for _ in range(sizes[0]))
    layers = tuple((a_table(chance, sizes[k], sizes[k + 1], p), a_table(chance, sizes[k], sizes[k + 1], p))
                   for k in range(n))
    return first, layers, tuple(chance.randrange(p) for _ in range(sizes[n]))


def some_summing(seed, many, most=4):
    """Tuples (n, p, machine), some of them with layers without rows."""
    chance = Random(seed)
    found = []
    for _ in range(many):
        n, p = chance.randint(1, 6), chance.choice((2, 3, 5, 97))
        sizes = [chance.choice((0, 1, 2, most)) for _ in range(n + 1)] if chance.random() < 0.3 else [
            chance.randint(1, most) for _ in range(n + 1)]
        found.append((n, p, a_summing(chance, n, p, sizes)))
    return found


def a_great_summing(p=97, n=6):
    """Sixteen rows in each layer, sixteen numbers of first and last."""
    return a_summing(Random(401), n, p, [16] * (n + 1))


class IsSumming(unittest.TestCase):

    def check_none_is(self, things, n=2, p=5):
        check_none_of(self, lambda thing: is_summing(n, p, thing), things)

    def test_machines(self):
        for p in PRIMES:
            check_same(self, is_summing(2, p, SUMMING), p >= 5)
        for n, p, machine in some_summing(402, 60):
            check_true(self, is_summing(n, p, machine))
        check_true(self, is_summing(6, 97, a_great_summing()))
        check_true(self, is_summing(1, 2, ((1,), ((((1,),), ((0,),)),), (1,))))

    def test_without_any_rows(self):
        for n in range(1, 7):
            check_true(self, is_summing(n, 2, ((), (((), ()),) * n, ())))
            check_true(self, is_summing(n, 97, ((), (((), ()),) * n, (96, 0, 5))))

    def test_behind_a_layer_without_rows_any_number(self):
        rows = (((1, 1), (0, 2), (3, 0)), ((0, 0), (4, 1), (1, 1)))
        for more in (((), ()), (((2,),), ((3,),)), (((2,),) * 7, ((3,),) * 7), (((),), ((),))):
            width = len(more[0][0]) if more[0] else 4
            check_true(self, is_summing(2, 5, ((), (((), ()), more), (1,) * width)))
            if more[0]:
                self.check_none_is([((), (((), ()), more), (1,) * (width + 1))])
        check_true(self, is_summing(2, 5, ((), (((), ()), rows), (2, 3))))
        self.check_none_is([((), (((), ()), rows), (2,)), ((), (((), ()), rows), ()),
                            ((), (((), ()), rows), (2, 3, 4))])

    def test_rows_without_numbers(self):
        # Behind them are as many rows as they have numbers: none.
        nothing = (((), ()), ((), ()))
        check_true(self, is_summing(1, 2, ((1, 0), (nothing,), ())))
        check_true(self, is_summing(2, 2, ((1, 0), (nothing, ((), ())), (1, 1, 1))))
        self.check_none_is([((1, 0), (nothing,), (1,)), ((1, 0), (nothing,), (0, 0))], 1, 2)
        self.check_none_is([((1, 0), (nothing, (((1,),), ((1,),))), (1,))], 2, 2)

    def test_first_and_the_rows_of_layer_0(self):
        layer = (((), ()), ((), ()))
        self.check_none_is([((), SUMMING[1], SUMMING[2]), ((1,), SUMMING[1], SUMMING[2]), ((1, 2, 0),) + SUMMING[1:]])
        self.check_none_is([((), (layer,), ()), ((1,), (layer,), ()), ((1,) * 3, (layer,), ()),
                            ((1,), (((), ()),), ())], 1)
        check_true(self, is_summing(1, 5, ((1, 1), (layer,), ())))

    def test_last(self):
        self.check_none_is([SUMMING[:2] + (last,) for last in ((), (2,), (2, 3, 4), (2, 3, 2, 3))])
        check_true(self, is_summing(2, 5, SUMMING[:2] + ((0, 0),)))

    def test_each_further_layer_has_as_many_rows_as_the_rows_ahead_have_numbers(self):
        one, two = SUMMING[1]
        for rows in (two[0][:2], two[0] + two[0][:1], ()):
            self.check_none_is([with_part(SUMMING, (1, 1), (rows, rows)), with_part(SUMMING, (1, 1, 0), rows),
                                with_part(SUMMING, (1, 1, 1), rows)])
        self.check_none_is([with_part(SUMMING, (1, 0), two), with_part(SUMMING, (1, 1), one),
                            with_part(SUMMING, (1,), (two, one))])

    def test_tables_of_unlike_length(self):
        one = SUMMING[1][0]
        for table in (one[0][:1], one[0] + one[0], (), ((1, 0), (0, 1)), ((1, 0, 2), (0, 1)), ((1, 0), (0, 1, 0)),
                      ((1, 0, 2, 0), (0, 1, 0, 0)), ((), ()), ((1, 0, 2), ())):
            self.check_none_is([with_part(SUMMING, (1, 0, 0), table), with_part(SUMMING, (1, 0, 1), table)])
        self.check_none_is([((1,), (((), ((1,),)),), (1,)), ((1,), ((((1,),), ()),), (1,)), ((), (((), ((),)),), ()),
                            ((1,), ((((1,),), ((1, 1),)),), (1,)), ((1,), ((((1, 1),), ((1,),)),), (1,))], 1)

    def test_a_layer_too_few_or_too_many(self):
        layers = ((((1,),), ((1,),)),) * 4
        for n in range(1, 7):
            check_same(self, is_summing(n, 2, ((1,), layers, (1,))), n == 4)
        for n in (1, 3, 4, 5, 6):
            self.check_none_is([SUMMING], n)
        self.check_none_is([((1, 2), (), (1, 2)), ((), (), ())])
        self.check_none_is([((1, 2), (), (1, 2)), ((), (), ())], 1)

    def test_numbers_below_nought_or_from_p_on(self):
        ways = [(0, 0), (0, 1), (1, 0, 0, 0, 0), (1, 0, 1, 1, 2), (1, 1, 0, 2, 1), (1, 1, 1, 0, 0), (2, 0), (2, 1)]
        for p in (5, 7, 97):
            for way in ways:
                check_true(self, is_summing(2, p, with_part(SUMMING, way, p - 1)))
                self.check_none_is([with_part(SUMMING, way, number)
                                    for number in (p, p + 1, -1, -p, 10 ** 39, -(10 ** 39))], p=p)
                self.check_none_is([with_part(SUMMING, way, thing) for thing in (
                    True, False, None, "", "1", (), (1,), [1], {})], p=p)

    def test_parts_missing_or_too_many(self):
        first, layers, last = SUMMING
        self.check_none_is([(), (first,), (first, layers), (layers, last), (first, last), (first, last, layers),
                            (last, layers), SUMMING + (last,), SUMMING + ((),), SUMMING * 2, (SUMMING,), layers,
                            (first, layers, layers), (layers, layers, layers)])
        for layer in ((), layers[0][:1], layers[0] + layers[0], layers[0] + ((),), (layers[0],), layers[0][0]):
            self.check_none_is([with_part(SUMMING, (1, 0), layer)])

    def test_of_other_kinds(self):
        self.check_none_is(of_other_kinds(SUMMING))
        self.check_none_is(of_other_kinds(((1,), ((((1,),), ((0,),)),), (1,))), 1, 2)
        # Of (), here another thing than first, tables or last.
        for n in (1, 2):
            for way in ((0,), (1,), (2,), (1, 0), (1, 0, 0), (1, 0, 1)):
                self.check_none_is([with_part(((), (((), ()),) * n, ()), way, thing)
                                    for thing in ([], {}, "", None, False, 0, True)], n)

    def test_of_anything(self):
        for n in (1, 2, 6):
            self.check_none_is(odd_things(), n)
        for thing in odd_things() + [nested(1, 26), nested((), 26), nested(1, 26, list), nested_dict(1, 26)]:
            self.check_none_is([with_part(SUMMING, way, thing)
                                for way in ((1,), (1, 0), (1, 1), (1, 0, 0), (1, 1, 1), (1, 0, 1, 1))])
        for thing in (nested(1, 26), nested_dict(1, 26), nested((1, 2), 25), nested(SUMMING, 24)):
            self.check_none_is([with_part(SUMMING, way, thing) for way in ((0,), (2,), (0, 1), (2, 0),
                                                                           (1, 1, 1, 2, 0))])

    def test_very_many_rows(self):
        check_true(self, is_summing(1, 2, ((1,) * 1200, ((((),) * 1200, ((),) * 1200),), ())))
        check_true(self, is_summing(2, 2, ((), (((), ()), (((0,),) * 1000, ((1,),) * 1000)), (1,))))
        check_true(self, is_summing(1, 3, ((2,), ((((1,) * 1500,), ((2,) * 1500,)),), (0,) * 1500)))


class Worth(unittest.TestCase):

    def test_each_word(self):
        # From (1, 2): at 0 to (1, 2, 2), at 1 to (3, 0, 8).
        check_same(self, [worth(97, SUMMING, word) for word in words_of_signs(2)], [29, 32, 63, 40])
        check_same(self, [worth(5, SUMMING, word) for word in words_of_signs(2)], [4, 2, 3, 0])

    def test_one_row(self):
        machine = ((3,), ((((2,),), ((5,),)),), (7,))
        check_same(self, [worth(97, machine, "0"), worth(97, machine, "1")], [42, 105 - 97])
        check_same(self, [worth(11, machine, "0"), worth(11, machine, "1")], [9, 6])

    def test_by_its_meaning(self):
        for n, p, machine in some_summing(403, 60) + [(6, 97, a_great_summing()), (6, 2, a_great_summing(2))]:
            for word in words_of_signs(n):
                check_same(self, worth(p, machine, word), worth_by_its_meaning(p, machine, word))

    def test_without_rows_all_worths_are_nought(self):
        none, more, two = ((), ()), (((2, 3),) * 4, ((3, 1),) * 4), (((1,), (2,)), ((3,), (4,)))
        machines = [((), (none,) * 3, ()), ((), (none,) * 3, (1, 1)), ((), (none, more, two), (4,)),
                    ((1,), ((((),), ((),)), none, more), (4, 4)), ((), (none, none, more), (1, 2))]
        for machine in machines:
            for p in (5, 97):
                check_true(self, is_summing(3, p, machine))
                check_same(self, [worth(p, machine, word) for word in words_of_signs(3)], [0] * 8)
                for k in range(4):
                    check_same(self, sum_cut(p, machine, k), ((0,) * 2 ** (3 - k),) * 2 ** k)

    def test_last_of_another_length_behind_no_rows(self):
        for last in ((), (1,), (1, 1, 1)):
            check_same(self, worth(2, ((), (((), ()),), last), "1"), 0)


class SizesOf(unittest.TestCase):

    def test_sizes(self):
        check_same(self, sizes_of(SUMMING), (2, 3, 2))
        check_same(self, sizes_of(((1,), ((((2,),), ((5,),)),), (7,))), (1, 1))
        check_same(self, sizes_of(a_great_summing()), (16,) * 7)

    def test_without_rows(self):
        check_same(self, sizes_of(((), (((), ()),) * 3, ())), (0, 0, 0, 0))
        check_same(self, sizes_of(((), (((), ()), (((1,),) * 5, ((1,),) * 5)), (1,))), (0, 5, 1))
        check_same(self, sizes_of(((), (((), ()), ((), ())), (1, 1, 1))), (0, 0, 3))
        check_same(self, sizes_of(((1, 1), ((((), ()), ((), ())), ((), ())), ())), (2, 0, 0))

    def test_of_any_sizes(self):
        chance = Random(404)
        for _ in range(40):
            n = chance.randint(1, 6)
            sizes = [chance.randint(1, 16) for _ in range(n + 1)]
            check_same(self, sizes_of(a_summing(chance, n, 7, sizes)), tuple(sizes))


class SumCut(unittest.TestCase):

    def test_small_ones(self):
        check_same(self, sum_cut(97, SUMMING, 0), ((29, 32, 63, 40),))
        check_same(self, sum_cut(97, SUMMING, 1), ((29, 32), (63, 40)))
        check_same(self, sum_cut(97, SUMMING, 2), ((29,), (32,), (63,), (40,)))
        check_same(self, sum_cut(5, SUMMING, 1), ((4, 2), (3, 0)))

    def test_by_its_meaning(self):
        for n, p, machine in some_summing(405, 30) + [(6, 97, a_great_summing())]:
            for k in range(n + 1):
                due = tuple(tuple(worth_by_its_meaning(p, machine, word + part) for part in words_of_signs(n - k))
                            for word in words_of_signs(k))
                check_same(self, sum_cut(p, machine, k), due)
                check_true(self, is_table(sum_cut(p, machine, k)))

    def test_no_cut_has_a_greater_rank_than_its_size(self):
        for n, p, machine in some_summing(406, 30):
            for k, size in enumerate(sizes_of(machine)):
                self.assertLessEqual(len(ranked(sum_cut(p, machine, k), p)[0]), size)


class Summed(unittest.TestCase):

    def check_made(self, n, machine):
        made = summed(machine)
        layers, ends = machine
        check_same(self, made[0], (1,))
        check_same(self, made[2], ends)
        check_same(self, sizes_of(made), tuple(len(layer) for layer in layers) + (len(ends),))
        for p in (2, 3, 97):
            check_true(self, is_summing(n, p, made))
            check_same(self, [worth(p, made, word) for word in words_of_signs(n)],
                       [reads(machine, word) for word in words_of_signs(n)])

    def test_small_ones(self):
        check_same(self, summed(((((0, 1),),), (1, 0))), ((1,), ((((1, 0),), ((0, 1),)),), (1, 0)))
        check_same(self, summed(((((0, 0),),), (1,))), ((1,), ((((1,),), ((1,),)),), (1,)))
        machine = ((((1, 0),), ((2, 2), (0, 1))), (0, 1, 1))
        layers = ((((0, 1),), ((1, 0),)), (((0, 0, 1), (1, 0, 0)), ((0, 0, 1), (0, 1, 0))))
        check_same(self, summed(machine), ((1,), layers, (0, 1, 1)))

    def test_states_to_which_nothing_leads(self):
        self.check_made(1, ((((3, 3),),), (0, 1, 0, 1, 0)))
        self.check_made(2, ((((1, 1),), ((0, 0), (1, 0), (1, 1))), (0, 1, 1)))

    def test_by_its_meaning(self):
        chance = Random(407)
        for _ in range(40):
            n = chance.randint(1, 6)
            self.check_made(n, a_machine(chance, n, chance.choice((1, 3, 16))))

    def test_of_machines_of_questions(self):
        for question in some_questions(408, 20) + well_known_questions():
            self.check_made(question[0], machine_of(question))


if __name__ == "__main__":
    unittest.main()
