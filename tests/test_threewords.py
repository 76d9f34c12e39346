"""[28] Tellings of three; [29] the paper that is told of the fewest words."""

import itertools
import unittest
from random import Random

from tellfew.threechecks import said_parted_holds
from tellfew.threewords import is_said, said, said_parted, said_wrong
from tests.things import (a_cube, a_table, check_none_of, check_same, check_true, nested, nested_dict, odd_things,
                          of_other_kinds, some_cubes, with_part)

# Two tables of three rows and two columns: at z 0 the ys have the answers 1 5, 3 5, 1 5, at z 1 all have 2 6.
CUBE = (((1, 2), (3, 2), (1, 2)), ((5, 6), (5, 6), (5, 6)))
SIZES = (2, 3, 2)
TELLING = (((0, 0), (1, 0), (0, 0)), (((1, 2), (5, 6)), ((3, 0), (5, 0))))
ALL_SIZES = list(itertools.product((1, 2, 3), repeat=3))
GREATEST = tuple(tuple(tuple(9 * x + 3 * y + z for z in range(3)) for y in range(3)) for x in range(3))


def sizes_of(cube):
    return len(cube), len(cube[0]), len(cube[0][0])


def triples_of(sizes):
    return list(itertools.product(*map(range, sizes)))


def seen_by_y(cube, y, z):
    return tuple(table[y][z] for table in cube)


def unlike_ys(cube, z):
    """The first y of each number, rising."""
    seen = [seen_by_y(cube, y, z) for y in range(len(cube[0]))]
    return [y for y in range(len(seen)) if seen.index(seen[y]) == y]


def a_telling(chance, sizes, many, answers=3):
    a, b, c = sizes
    return a_table(chance, b, c, many), tuple(a_table(chance, a, c, answers) for _ in range(many))


class IsSaid(unittest.TestCase):

    def check_no_tellings(self, things, sizes=SIZES):
        check_none_of(self, lambda thing: is_said(sizes, thing), things)

    def test_tellings(self):
        check_true(self, is_said(SIZES, TELLING))
        check_true(self, is_said((1, 1, 1), (((0,),), (((0,),),))))
        check_true(self, is_said((1, 1, 1), (((2,),), (((99,),),) * 3)))
        chance = Random(321)
        for sizes in ALL_SIZES:
            for many in (1, 2, 3, 12, 40):
                check_true(self, is_said(sizes, a_telling(chance, sizes, many, 100)))

    def test_of_one_size_alone(self):
        chance = Random(322)
        for sizes in ALL_SIZES:
            telling = a_telling(chance, sizes, 2)
            for other in ALL_SIZES + [(4, 4, 4), (1, 1, 4)]:
                check_same(self, is_said(other, telling), other == sizes)

    def test_words_that_no_triple_has(self):
        check_true(self, is_said((1, 1, 1), (((1,),), (((5,),), ((6,),), ((5,),)))))
        check_true(self, is_said(SIZES, (((0, 0),) * 3, TELLING[1])))
        check_true(self, is_said(SIZES, (((1, 1),) * 3, TELLING[1])))

    def test_numbers_that_are_no_words(self):
        for word in (2, 3, -1, -2, True, False, 10 ** 39, -(10 ** 39), "0", "", None, (), (0,), [0], {}):
            for y in range(3):
                for z in range(2):
                    self.check_no_tellings([with_part(TELLING, (0, y, z), word)])
        self.check_no_tellings([(TELLING[0], TELLING[1][:1])])

    def test_answers_that_are_none(self):
        for answer in (-1, 100, True, False, 10 ** 39, -(10 ** 39), "1", "", None, (), (1,), [1], {}):
            for way in itertools.product((0, 1), repeat=3):
                self.check_no_tellings([with_part(TELLING, (1,) + way, answer)])

    def test_no_answers_at_all(self):
        words = ((0, 0),) * 3
        self.check_no_tellings([(words, ()), ((), ()), (words, ((),)), (words, (((),),)), (words, (((), ()),)),
                                ((), TELLING[1]), (((),) * 3, TELLING[1]), (((), (), ()), ())])

    def test_parts_missing_twice_too_many(self):
        words, answers = TELLING
        self.check_no_tellings([(), (words,), (answers,), (answers, words), TELLING + (words,), TELLING + TELLING,
                                (TELLING,), (words, words), (answers, answers), (words, answers, answers)])
        self.check_no_tellings([(words[:2], answers), (words + words[:1], answers), (words + words, answers),
                                (words[0], answers), ((words,), answers), (words, answers[0]), (words, (answers,))])
        for way in ((0, 0), (0, 2), (1, 0), (1, 0, 0), (1, 1), (1, 1, 1)):
            part = TELLING
            for at in way:
                part = part[at]
            for other in (part[:-1], part + part[:1], part + part, (), (part,), part[0]):
                self.check_no_tellings([with_part(TELLING, way, other)])

    def test_of_other_kinds(self):
        self.check_no_tellings(of_other_kinds(TELLING))
        self.check_no_tellings(of_other_kinds((((0,),), (((7,),),))), (1, 1, 1))

    def test_of_anything(self):
        self.check_no_tellings(odd_things())
        self.check_no_tellings(odd_things(), (1, 1, 1))
        for thing in odd_things() + [nested(0, 26), nested(0, 26, list), nested_dict(0, 26), nested(TELLING, 25)]:
            self.check_no_tellings([with_part(TELLING, way, thing) for way in ((0,), (1,), (1, 1))])
        for thing in (nested(0, 26), nested_dict(1, 26), nested((0, 0), 25, list)):
            self.check_no_tellings([with_part(TELLING, way, thing) for way in ((0, 2), (0, 1, 1), (1, 0, 1),
                                                                               (1, 0, 1, 1))])


class Said(unittest.TestCase):

    def test_words_numbered_as_they_come(self):
        check_same(self, said(CUBE), TELLING)
        cube = (((4, 4, 1), (4, 3, 1), (2, 3, 1)),)
        check_same(self, said(cube), (((0, 0, 0), (0, 1, 0), (1, 1, 0)), (((4, 4, 1),), ((2, 3, 0),))))

    def test_one_word(self):
        check_same(self, said((((7,),),)), (((0,),), (((7,),),)))
        for a, b, c in ALL_SIZES:
            cube = (((7,) * c,) * b,) * a
            check_same(self, said(cube), (((0,) * c,) * b, (((7,) * c,) * a,)))
        check_same(self, said((((1, 2, 3),) * 2,)), (((0, 0, 0),) * 2, (((1, 2, 3),),)))

    def test_each_y_unlike(self):
        words = ((0, 0, 0), (1, 1, 1), (2, 2, 2))
        answers = tuple(tuple(tuple(GREATEST[x][y][z] for z in range(3)) for x in range(3)) for y in range(3))
        check_same(self, said(GREATEST), (words, answers))

    def test_noughts_where_no_y_has_the_word(self):
        cube = (((1, 9), (2, 9), (3, 9)),)
        check_same(self, said(cube), (((0, 0), (1, 0), (2, 0)), (((1, 9),), ((2, 0),), ((3, 0),))))
        cube = (((9, 1), (9, 2)), ((9, 9), (9, 9)))
        check_same(self, said(cube), (((0, 0), (0, 1)), (((9, 1), (9, 9)), ((0, 2), (0, 9)))))

    def test_by_its_meaning(self):
        for cube in some_cubes(323, 80, 2) + some_cubes(324, 40, 3) + [GREATEST, CUBE]:
            a, b, c = sizes_of(cube)
            words, answers = telling = said(cube)
            check_true(self, is_said((a, b, c), telling))
            check_same(self, said_wrong(cube, telling), ())
            many = max(len(unlike_ys(cube, z)) for z in range(c))
            self.assertEqual(len(answers), many)
            for z in range(c):
                firsts = unlike_ys(cube, z)
                for y in range(b):
                    first = [seen_by_y(cube, one, z) for one in firsts].index(seen_by_y(cube, y, z))
                    check_same(self, words[y][z], first)
                for word in range(many):
                    for x in range(a):
                        due = cube[x][firsts[word]][z] if word < len(firsts) else 0
                        check_same(self, answers[word][x][z], due)

    def test_no_right_telling_has_fewer_words(self):
        for cube in some_cubes(325, 25, 2):
            a, b, c = sizes_of(cube)
            many = len(said(cube)[1])
            for flat in itertools.product(range(many - 1), repeat=b * c) if b * c <= 6 else []:
                word = {(y, z): flat[y * c + z] for y in range(b) for z in range(c)}
                self.assertTrue(any(word[y, z] == word[other, z] and cube[x][y][z] != cube[x][other][z]
                                    for x in range(a) for y in range(b) for other in range(b) for z in range(c)))


class SaidWrong(unittest.TestCase):

    def test_right_ones(self):
        check_same(self, said_wrong(CUBE, TELLING), ())
        # Another number of words, other answers where no y has the word.
        other = (((2, 1), (0, 2), (2, 1)), (((3, 99), (5, 98)), ((97, 2), (96, 6)), ((1, 2), (5, 6))))
        check_same(self, said_wrong(CUBE, other), ())

    def test_each_wrong_triple(self):
        for cube in some_cubes(326, 10) + [CUBE, GREATEST]:
            telling = said(cube)
            for x, y, z in triples_of(sizes_of(cube)):
                wrong = with_part(cube, (x, y, z), (cube[x][y][z] + 1) % 100)
                check_same(self, said_wrong(wrong, telling), ((x, y, z),))

    def test_all_wrong(self):
        for a, b, c in ALL_SIZES:
            telling = (((1,) * c,) * b, (((4,) * c,) * a, ((5,) * c,) * a))
            check_same(self, said_wrong((((4,) * c,) * b,) * a, telling), tuple(triples_of((a, b, c))))
            check_same(self, said_wrong((((5,) * c,) * b,) * a, telling), ())

    def test_rising_and_by_its_meaning(self):
        chance = Random(327)
        for _ in range(60):
            sizes = chance.choice(ALL_SIZES)
            cube = a_cube(chance, sizes, 3)
            words, answers = telling = a_telling(chance, sizes, chance.randint(1, 4))
            wrong = [(x, y, z) for x, y, z in triples_of(sizes) if answers[words[y][z]][x][z] != cube[x][y][z]]
            check_same(self, said_wrong(cube, telling), tuple(sorted(wrong)))

    def test_words_by_y_and_z_answers_by_x_and_z(self):
        words = ((0, 1, 0), (1, 1, 0))
        answers = (((1, 2, 3),), ((4, 5, 6),))
        check_same(self, said_wrong((((1, 5, 3), (4, 5, 3)),), (words, answers)), ())
        check_same(self, said_wrong((((1, 4, 3), (4, 5, 6)),), (words, answers)), ((0, 0, 1), (0, 1, 2)))


class SaidParted(unittest.TestCase):

    def test_the_first_z_with_the_most_unlike_ys(self):
        check_same(self, said_parted(CUBE), (0, (0, 1), (0,)))
        check_same(self, said_parted((((9, 1), (9, 2), (8, 3)),)), (1, (0, 1, 2), (0, 0, 0)))
        check_same(self, said_parted((((7, 1, 1), (7, 2, 2), (7, 1, 3)),)), (2, (0, 1, 2), (0, 0, 0)))
        check_same(self, said_parted((((7, 1, 1), (7, 2, 2), (7, 1, 2)),)), (1, (0, 1), (0,)))

    def test_one_unlike_y(self):
        check_same(self, said_parted((((7,),),)), (0, (0,), ()))
        for a, b, c in ALL_SIZES:
            check_same(self, said_parted((((7,) * c,) * b,) * a), (0, (0,), ()))

    def test_the_first_xs(self):
        cube = (((1,), (1,), (2,)), ((3,), (4,), (4,)), ((5,), (6,), (7,)))
        check_same(self, said_parted(cube), (0, (0, 1, 2), (1, 0, 0)))
        check_same(self, said_parted(cube[::-1]), (0, (0, 1, 2), (0, 0, 0)))
        check_same(self, said_parted((cube[1], cube[0])), (0, (0, 1, 2), (0, 0, 1)))
        check_same(self, said_parted(GREATEST), (0, (0, 1, 2), (0, 0, 0)))

    def test_by_its_meaning(self):
        for cube in some_cubes(328, 120, 2):
            a, _, c = sizes_of(cube)
            counts = [len(unlike_ys(cube, z)) for z in range(c)]
            z = min(z for z in range(c) if counts[z] == max(counts))
            ys = unlike_ys(cube, z)
            xs = tuple(min(x for x in range(a) if cube[x][one][z] != cube[x][other][z])
                       for one, other in itertools.combinations(ys, 2))
            check_same(self, said_parted(cube), (z, tuple(ys), xs))
            check_true(self, said_parted_holds(cube, said_parted(cube)))
            self.assertEqual(len(ys), len(said(cube)[1]))


if __name__ == "__main__":
    unittest.main()
