"""[26] Triples that are shut, and shut up."""

import itertools
import unittest
from random import Random

from tellfew.shutting import is_shut, shut_up
from tests.things import check_false, check_same, check_true

ALL = tuple(itertools.product(range(3), repeat=3))
# Of these each of three sees a pair that (0, 0, 0) has.
CORNER = ((0, 0, 1), (0, 1, 0), (1, 0, 0))


def shut_by_its_meaning(triples):
    for x, y, z in ALL:
        seen = (any((k, y, z) in triples for k in range(3)) and any((x, k, z) in triples for k in range(3))
                and any((x, y, k) in triples for k in range(3)))
        if seen and (x, y, z) not in triples:
            return False
    return True


def turns_to_shut(triples):
    """The least shut one, and in how many turns it is made."""
    turns = 0
    while True:
        more = [(x, y, z) for x, y, z in ALL if (x, y, z) not in triples
                and any((k, y, z) in triples for k in range(3)) and any((x, k, z) in triples for k in range(3))
                and any((x, y, k) in triples for k in range(3))]
        if not more:
            return tuple(sorted(triples)), turns
        triples, turns = list(triples) + more, turns + 1


def some_triples(seed, many):
    chance = Random(seed)
    return [tuple(sorted(chance.sample(ALL, chance.randint(0, 27)))) for _ in range(many)]


class IsShut(unittest.TestCase):

    def test_none_one_all(self):
        check_true(self, is_shut(()))
        for triple in ALL:
            check_true(self, is_shut((triple,)))
        check_true(self, is_shut(ALL))
        for at in range(27):
            check_false(self, is_shut(ALL[:at] + ALL[at + 1:]))

    def test_a_corner(self):
        check_false(self, is_shut(CORNER))
        check_true(self, is_shut(((0, 0, 0),) + CORNER))
        for two in itertools.combinations(CORNER, 2):
            check_true(self, is_shut(two))
        # Two of three see a pair that these have, or all three pairs are another one's.
        check_true(self, is_shut(((0, 1, 1), (1, 0, 1), (1, 1, 0))[:2]))
        check_false(self, is_shut(((0, 1, 1), (1, 0, 1), (1, 1, 0))))
        check_false(self, is_shut(((0, 2, 1), (1, 0, 1), (1, 2, 2))))
        check_true(self, is_shut(((0, 2, 1), (1, 0, 1), (1, 1, 2), (2, 2, 2))))

    def test_all_two_and_three_triples(self):
        for many in (2, 3):
            for triples in itertools.combinations(ALL, many):
                check_same(self, is_shut(triples), shut_by_its_meaning(triples))

    def test_all_of_two_by_two_by_two(self):
        small = list(itertools.product(range(2), repeat=3))
        for many in range(9):
            for triples in itertools.combinations(small, many):
                check_same(self, is_shut(triples), shut_by_its_meaning(triples))

    def test_by_its_meaning(self):
        for triples in some_triples(232, 200):
            check_same(self, is_shut(triples), shut_by_its_meaning(triples))


class ShutUp(unittest.TestCase):

    def test_none_one_all(self):
        check_same(self, shut_up(()), ())
        for triple in ALL:
            check_same(self, shut_up((triple,)), (triple,))
            check_same(self, shut_up(tuple(other for other in ALL if other != triple)), ALL)
        check_same(self, shut_up(ALL), ALL)

    def test_a_corner(self):
        check_same(self, shut_up(CORNER), ((0, 0, 0),) + CORNER)
        check_same(self, shut_up(((0, 2, 1), (1, 0, 1), (1, 2, 2))), ((0, 2, 1), (1, 0, 1), (1, 2, 1), (1, 2, 2)))

    def test_many_at_once(self):
        # All pairs are seen by some triple of these nine.
        triples = tuple((x, y, (x + y) % 3) for x in range(3) for y in range(3))
        check_same(self, shut_up(triples), ALL)
        triples = tuple(sorted([(0, 1, 1), (1, 0, 1), (1, 1, 0), (0, 2, 2), (2, 0, 2), (2, 2, 0)]))
        check_same(self, shut_up(triples), tuple(sorted(triples + ((1, 1, 1), (2, 2, 2)))))

    def test_turns(self):
        # What is added sees no new pairs, so that a second turn never adds anything: this is gone through here.
        for triples in some_triples(231, 100) + [CORNER]:
            shut, turns = turns_to_shut(triples)
            self.assertLessEqual(turns, 1)
            check_same(self, shut_up(triples), shut)

    def test_what_is_shut_stays(self):
        for triples in some_triples(233, 60):
            told = shut_up(triples)
            check_same(self, shut_up(told), told)
            if shut_by_its_meaning(triples):
                check_same(self, told, triples)

    def test_the_least_with_all_of_them(self):
        # Of all that are shut, in two by two by two.
        small = list(itertools.product(range(2), repeat=3))
        shut = [set(triples) for many in range(9) for triples in itertools.combinations(small, many)
                if shut_by_its_meaning(triples)]
        for many in range(9):
            for triples in itertools.combinations(small, many):
                among = [other for other in shut if set(triples) <= other]
                check_same(self, shut_up(triples), tuple(sorted(set.intersection(*among))))

    def test_by_its_meaning(self):
        for triples in some_triples(234, 200):
            check_same(self, shut_up(triples), turns_to_shut(triples)[0])


if __name__ == "__main__":
    unittest.main()
