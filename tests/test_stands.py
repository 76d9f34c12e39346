"""[38], [39] A stand: its deeds, what is refused, what is told."""

import unittest
from random import Random

from tellfew.errors import NoBack, NoFit, NoName, Taken, TellError, Wrong
from tellfew.likes import unlike_cols, unlike_rows
from tellfew.questions import cut
from tellfew.stands import Stand
from tellfew.words import one_word
from tests.things import a_table, check_same, kinds_of, nested, nested_dict, odd_things

TABLE = ((1, 2), (3, 4), (1, 2))
RIGHT = ((0, 1, 0), ((1, 2), (3, 4)))
# Right too: with a word that no row has, with a word for each row, the other way round.
WIDE = ((0, 1, 0), ((1, 2), (3, 4), (5, 6)))
EACH = ((0, 1, 2), ((1, 2), (3, 4), (1, 2)))
TURNED = ((1, 0, 1), ((3, 4), (1, 2)))
NO_NAMES = ["", " ", "A", "Z", "aB", "Ab", "abcdefghi", "a b", "ab ", " ab", "a1", "1", "0", "a-b", "a_b", "a.b",
            "ab\n",
            "\n", "a\tb", "`", "{", "@", "[", "a:", ":", "/", "a/b", "~", "abcdefgH", "a" * 2000, "z" * 9,
            None, True, False, 0, 1, 7, 10 ** 39, (), ("ab",), ["ab"], {"ab": 1}, [], {}, (("ab",),), nested("ab", 29),
            nested("ab", 29, list), nested_dict("ab", 29)]


def told_by_stand(stand):
    """All that the stand tells."""
    of_names = [(name, stand.table(name), stand.kept(name), stand.fewest(name)) for name in stand.names()]
    return kinds_of((stand.names(), tuple(of_names), stand.gone(), stand.deeds()))


class Model:
    """What a stand is by the meaning of [38], [39]: it goes through all deeds again whenever it is asked."""

    def __init__(self):
        self.done = []
        self.behind_back = False

    def do(self, deed):
        self.done.append(deed)
        self.behind_back = False

    def back(self, many):
        self.done = self.done[:many]
        self.behind_back = True

    def held(self):
        """Tables and tellings by names, and how many tellings the last deed took away."""
        held, gone = {}, 0
        for deed in self.done:
            gone = self.done_once(held, *deed)
        return held, 0 if self.behind_back else gone

    def done_once(self, held, what, name, *rest):
        if what == "put":
            held[name] = (rest[0], [])
            return 0
        if what == "drop":
            return len(held.pop(name)[1])
        table, tellings = held[name]
        if what == "keep":
            held[name] = (table, tellings + [rest[0]])
            return 0
        if what == "more":
            table = table + (rest[0],)
            tellings = [(words + (next((word for word, row in enumerate(answers) if row == rest[0]), None),), answers)
                        for words, answers in tellings]
        else:
            (i, j), answer = rest
            table = tuple(tuple(answer if (r, c) == (i, j) else old for c, old in enumerate(row))
                          for r, row in enumerate(table))
        left = [(words, answers) for words, answers in tellings
                if None not in words and all(answers[word] == row for word, row in zip(words, table))]
        held[name] = (table, left)
        return len(tellings) - len(left)

    def told(self):
        held, gone = self.held()
        of_names = []
        for name in sorted(held):
            table, tellings = held[name]
            counts = len(set(table)), len(set(zip(*table)))
            of_names.append((name, table, tuple(tellings), counts))
        return kinds_of((tuple(sorted(held)), tuple(of_names), gone, len(self.done)))


class StandCase(unittest.TestCase):

    def check_nothing_done(self, stand, refusal, deed, *handed):
        """The deed is refused with just this class, and nothing is changed then."""
        before, given = told_by_stand(stand), kinds_of(handed)
        with self.assertRaises(refusal) as caught:
            deed(*handed)
        self.assertIs(type(caught.exception), refusal)
        self.assertEqual(told_by_stand(stand), before)
        self.assertEqual(kinds_of(handed), given)
        return caught.exception

    def with_tellings(self, *tellings):
        """A stand with the table under `ab`, and these tellings of it."""
        stand = Stand()
        stand.put("ab", TABLE)
        for telling in tellings:
            stand.keep("ab", telling)
        return stand


class Put(StandCase):

    def test_put(self):
        stand = Stand()
        self.assertIsNone(stand.put("ab", TABLE))
        check_same(self, stand.names(), ("ab",))
        check_same(self, stand.table("ab"), TABLE)
        check_same(self, stand.kept("ab"), ())
        check_same(self, (stand.gone(), stand.deeds()), (0, 1))

    def test_names_of_one_and_of_eight_letters(self):
        for name in ("a", "z", "m", "ab", "zzzzzzzz", "abcdefgh", "stuvwxyz", "none", "all"):
            stand = Stand()
            stand.put(name, TABLE)
            check_same(self, stand.names(), (name,))
            check_same(self, stand.table(name), TABLE)

    def test_no_names(self):
        stand = self.with_tellings(RIGHT)
        for name in NO_NAMES + [thing for thing in odd_things() if thing not in ("x", "end", "row", "col")]:
            with self.subTest(name=repr(name)[:80]):
                self.check_nothing_done(stand, NoName, stand.put, name, TABLE)

    def test_taken(self):
        stand = self.with_tellings(RIGHT)
        for table in (TABLE, ((7,),)):
            self.check_nothing_done(stand, Taken, stand.put, "ab", table)
        stand.put("abc", ((7,),))
        stand.put("a", ((8,),))
        self.check_nothing_done(stand, Taken, stand.put, "a", TABLE)

    def test_put_again_behind_drop(self):
        stand = self.with_tellings(RIGHT, EACH)
        stand.drop("ab")
        stand.put("ab", ((7,),))
        check_same(self, stand.table("ab"), ((7,),))
        check_same(self, stand.kept("ab"), ())
        check_same(self, (stand.gone(), stand.deeds()), (0, 5))

    def test_the_greatest_table(self):
        table = a_table(Random(421), 12, 12, 100)
        stand = Stand()
        stand.put("ab", table)
        check_same(self, stand.table("ab"), table)
        check_same(self, stand.fewest("ab"), (len(unlike_rows(table)), len(unlike_cols(table))))
        stand.keep("ab", one_word(table))
        check_same(self, stand.kept("ab"), (one_word(table),))

    def test_a_table_that_was_told_here(self):
        table = cut((6, "0110" * 16), 6)
        stand = Stand()
        stand.put("ab", table)
        check_same(self, stand.fewest("ab"), (2, 1))
        stand.keep("ab", one_word(table))
        check_same(self, stand.kept("ab"), (one_word(table),))
        self.check_nothing_done(stand, NoFit, stand.more, "ab", (0,))


class More(StandCase):

    def test_a_row_more_behind_all(self):
        stand = self.with_tellings()
        self.assertIsNone(stand.more("ab", (9, 0)))
        check_same(self, stand.table("ab"), TABLE + ((9, 0),))
        stand.more("ab", (3, 4))
        check_same(self, stand.table("ab"), TABLE + ((9, 0), (3, 4)))
        check_same(self, (stand.gone(), stand.deeds()), (0, 3))

    def test_tellings_that_have_a_word_for_it(self):
        stand = self.with_tellings(RIGHT, TURNED, EACH, WIDE)
        stand.more("ab", (3, 4))
        check_same(self, stand.kept("ab"), (((0, 1, 0, 1), RIGHT[1]), ((1, 0, 1, 0), TURNED[1]),
                                            ((0, 1, 2, 1), EACH[1]), ((0, 1, 0, 1), WIDE[1])))
        check_same(self, stand.gone(), 0)

    def test_the_first_word_whose_answers_it_is(self):
        stand = self.with_tellings(EACH, ((2, 1, 2), ((7, 7), (3, 4), (1, 2), (1, 2))))
        stand.more("ab", (1, 2))
        check_same(self, [words for words, _ in stand.kept("ab")], [(0, 1, 2, 0), (2, 1, 2, 2)])

    def test_else_it_is_gone(self):
        stand = self.with_tellings(RIGHT, WIDE, TURNED, WIDE)
        stand.more("ab", (5, 6))
        check_same(self, stand.kept("ab"), (((0, 1, 0, 2), WIDE[1]),) * 2)
        check_same(self, stand.gone(), 2)
        stand.more("ab", (3, 2))
        check_same(self, stand.kept("ab"), ())
        check_same(self, stand.gone(), 2)
        stand.more("ab", (3, 2))
        check_same(self, stand.gone(), 0)

    def test_another_table_is_left_alone(self):
        stand = self.with_tellings(RIGHT)
        stand.put("b", TABLE)
        stand.keep("b", RIGHT)
        stand.more("ab", (9, 9))
        check_same(self, (stand.table("b"), stand.kept("b"), stand.kept("ab")), (TABLE, (RIGHT,), ()))

    def test_no_fit(self):
        stand = self.with_tellings(RIGHT)
        for row in ((), (1,), (1, 2, 3), (1, 2, 1, 2), (0,) * 12, (0,) * 13, (5,) * 100):
            self.check_nothing_done(stand, NoFit, stand.more, "ab", row)

    def test_tables_of_twelve_rows(self):
        stand = self.with_tellings(RIGHT)
        for k in range(9):
            stand.more("ab", (1, 2) if k % 2 else (3, 4))
        check_same(self, len(stand.table("ab")), 12)
        for row in ((1, 2), (9, 9), (1,), ()):
            self.check_nothing_done(stand, NoFit, stand.more, "ab", row)
        check_same(self, stand.kept("ab"), ((RIGHT[0] + (1, 0, 1, 0, 1, 0, 1, 0, 1), RIGHT[1]),))
        stand.back(10)
        stand.more("ab", (1, 2))
        check_same(self, len(stand.table("ab")), 12)

    def test_no_name(self):
        stand = self.with_tellings(RIGHT)
        for name in NO_NAMES + ["a", "b", "abc", "ba"]:
            for row in ((1, 2), (1, 2, 3), ()):
                self.check_nothing_done(stand, NoName, stand.more, name, row)


class Change(StandCase):

    def test_another_answer(self):
        stand = self.with_tellings()
        self.assertIsNone(stand.change("ab", (1, 0), 99))
        check_same(self, stand.table("ab"), ((1, 2), (99, 4), (1, 2)))
        stand.change("ab", (2, 1), 0)
        check_same(self, stand.table("ab"), ((1, 2), (99, 4), (1, 0)))
        check_same(self, (stand.gone(), stand.deeds()), (0, 3))
        table = ((1, 2, 3),)
        for j in range(3):
            stand = Stand()
            stand.put("a", table)
            stand.change("a", (0, j), 7)
            check_same(self, stand.table("a"), (table[0][:j] + (7,) + table[0][j + 1:],))

    def test_those_that_are_wrong_now_are_gone(self):
        stand = self.with_tellings(RIGHT, EACH, TURNED)
        stand.change("ab", (0, 1), 9)
        check_same(self, stand.kept("ab"), ())
        check_same(self, stand.gone(), 3)
        stand.change("ab", (0, 1), 2)
        check_same(self, (stand.table("ab"), stand.kept("ab"), stand.gone()), (TABLE, (), 0))

    def test_the_same_answer_is_a_deed(self):
        stand = self.with_tellings(RIGHT, EACH)
        stand.change("ab", (1, 1), 4)
        check_same(self, stand.kept("ab"), (RIGHT, EACH))
        check_same(self, (stand.gone(), stand.deeds()), (0, 4))

    def test_no_such_pair(self):
        stand = self.with_tellings(RIGHT)
        great = 10 ** 39
        for pair in ((3, 0), (0, 2), (3, 2), (-1, 0), (0, -1), (-3, -2), (12, 12), (great, 0), (0, great), (-great, 1)):
            self.check_nothing_done(stand, NoFit, stand.change, "ab", pair, 5)

    def test_no_name(self):
        stand = self.with_tellings(RIGHT)
        for name in NO_NAMES + ["a", "b", "abc"]:
            for pair in ((0, 0), (9, 9)):
                self.check_nothing_done(stand, NoName, stand.change, name, pair, 5)


class Drop(StandCase):

    def test_drop(self):
        for many, tellings in ((0, ()), (1, (RIGHT,)), (3, (RIGHT, RIGHT, EACH))):
            stand = self.with_tellings(*tellings)
            stand.put("b", ((1,),))
            stand.keep("b", ((0,), ((1,),)))
            self.assertIsNone(stand.drop("ab"))
            check_same(self, stand.names(), ("b",))
            check_same(self, (stand.gone(), stand.deeds()), (many, many + 4))
            check_same(self, stand.kept("b"), (((0,), ((1,),)),))
            for asked in (stand.table, stand.kept, stand.fewest, stand.drop):
                self.check_nothing_done(stand, NoName, asked, "ab")
            self.check_nothing_done(stand, NoName, stand.more, "ab", (1, 2))
            self.check_nothing_done(stand, NoName, stand.change, "ab", (0, 0), 2)
            self.check_nothing_done(stand, NoName, stand.keep, "ab", RIGHT)

    def test_no_name(self):
        stand = self.with_tellings(RIGHT)
        for name in NO_NAMES + ["a", "b", "abc"]:
            self.check_nothing_done(stand, NoName, stand.drop, name)


class Keep(StandCase):

    def test_in_order_each_as_often_as_it_was_kept(self):
        stand = self.with_tellings()
        kept = ()
        for telling in (EACH, RIGHT, EACH, WIDE, RIGHT, RIGHT):
            self.assertIsNone(stand.keep("ab", telling))
            kept += (telling,)
            check_same(self, stand.kept("ab"), kept)
            check_same(self, (stand.gone(), stand.deeds()), (0, 1 + len(kept)))

    def test_any_other_sizes(self):
        stand = self.with_tellings(RIGHT)
        for telling in (((0, 1), ((1, 2), (3, 4))), ((0, 1, 0, 1), ((1, 2), (3, 4))), ((0,), ((1, 2),)),
                        ((0, 1, 0), ((1,), (3,))), ((0, 1, 0), ((1, 2, 3), (3, 4, 5))),
                        ((0, 1), ((1, 3, 1), (2, 4, 2))),
                        ((0,) * 12, ((0,) * 12,))):
            self.check_nothing_done(stand, NoFit, stand.keep, "ab", telling)

    def test_wrong_with_its_first_wrong_pair(self):
        stand = self.with_tellings(RIGHT)
        for telling, pair in ((((0, 0, 0), ((1, 2),)), (1, 0)), (((0, 0, 0), ((3, 2),)), (0, 0)),
                              (((0, 1, 0), ((1, 2), (3, 2))), (1, 1)), (((0, 1, 1), ((1, 2), (3, 4))), (2, 0)),
                              (((0, 1, 2), ((1, 2), (3, 4), (1, 4))), (2, 1)), (((0, 1, 0), ((1, 4), (3, 2))), (0, 1))):
            wrong = self.check_nothing_done(stand, Wrong, stand.keep, "ab", telling)
            check_same(self, (wrong.row, wrong.column), pair)

    def test_no_name(self):
        stand = self.with_tellings(RIGHT)
        for name in NO_NAMES + ["a", "b", "abc"]:
            for telling in (RIGHT, ((0,), ((9,),)), ((0, 0, 0), ((1, 2),))):
                self.check_nothing_done(stand, NoName, stand.keep, name, telling)


class Back(StandCase):

    def a_history(self):
        """A stand of seven deeds, and what it told behind each of them, first of none."""
        stand = Stand()
        told = [told_by_stand(stand)]
        for deed in (lambda: stand.put("ab", TABLE), lambda: stand.keep("ab", RIGHT), lambda: stand.put("b", ((5,),)),
                     lambda: stand.keep("ab", WIDE), lambda: stand.more("ab", (5, 6)), lambda: stand.drop("b"),
                     lambda: stand.change("ab", (0, 0), 7), lambda: stand.put("b", ((6,),))):
            deed()
            told.append(told_by_stand(stand))
        return stand, told

    def but_gone(self, told):
        return told[:3] + [["int", 0]] + told[4:]

    def test_to_each_number_of_deeds(self):
        for many in range(9):
            stand, told = self.a_history()
            self.assertIsNone(stand.back(many))
            self.assertEqual(told_by_stand(stand), self.but_gone(told[many]))
            check_same(self, (stand.gone(), stand.deeds()), (0, many))

    def test_beyond_and_below_nought(self):
        stand, _ = self.a_history()
        for many in (9, 10, 10 ** 39, -1, -8, -9, -(10 ** 39)):
            self.check_nothing_done(stand, NoBack, stand.back, many)
        stand.back(3)
        for many in (4, 8, -1):
            self.check_nothing_done(stand, NoBack, stand.back, many)
        stand = Stand()
        for many in (1, -1):
            self.check_nothing_done(stand, NoBack, stand.back, many)
        stand.back(0)
        check_same(self, (stand.names(), stand.gone(), stand.deeds()), ((), 0, 0))

    def test_twice_in_a_row(self):
        stand, told = self.a_history()
        for many in (6, 6, 4, 4, 1, 0, 0):
            stand.back(many)
            self.assertEqual(told_by_stand(stand), self.but_gone(told[many]))

    def test_back_is_no_deed(self):
        stand, told = self.a_history()
        stand.back(8)
        self.assertEqual(told_by_stand(stand), told[8])
        stand.back(5)
        check_same(self, stand.deeds(), 5)
        stand.put("c", ((1,),))
        check_same(self, stand.deeds(), 6)
        stand.back(5)
        self.assertEqual(told_by_stand(stand), self.but_gone(told[5]))

    def test_tellings_that_were_gone_are_kept_again(self):
        stand = self.with_tellings(RIGHT, EACH, RIGHT)
        stand.change("ab", (0, 0), 9)
        stand.drop("ab")
        stand.back(5)
        check_same(self, (stand.table("ab"), stand.kept("ab")), (((9, 2),) + TABLE[1:], ()))
        stand.back(4)
        check_same(self, (stand.table("ab"), stand.kept("ab")), (TABLE, (RIGHT, EACH, RIGHT)))
        check_same(self, stand.gone(), 0)

    def test_refused_deeds_are_none(self):
        stand = self.with_tellings(RIGHT)
        for deed in (lambda: stand.put("ab", TABLE), lambda: stand.put("A", TABLE), lambda: stand.more("ab", (1,)),
                     lambda: stand.change("ab", (9, 9), 1), lambda: stand.drop("b"), lambda: stand.back(3),
                     lambda: stand.keep("ab", ((0, 0, 0), ((1, 2),)))):
            with self.assertRaises(TellError):
                deed()
        check_same(self, stand.deeds(), 2)
        stand.back(1)
        check_same(self, (stand.table("ab"), stand.kept("ab")), (TABLE, ()))


class Told(StandCase):

    def test_at_first(self):
        stand = Stand()
        check_same(self, (stand.names(), stand.gone(), stand.deeds()), ((), 0, 0))
        for name in NO_NAMES + ["ab"]:
            for asked in (stand.table, stand.kept, stand.fewest):
                self.check_nothing_done(stand, NoName, asked, name)

    def test_names_rise(self):
        stand = Stand()
        for name in ("m", "b", "ba", "abc", "z", "ab", "zz", "a"):
            stand.put(name, TABLE)
        check_same(self, stand.names(), ("a", "ab", "abc", "b", "ba", "m", "z", "zz"))
        stand.drop("b")
        stand.drop("a")
        stand.put("b", TABLE)
        check_same(self, stand.names(), ("ab", "abc", "b", "ba", "m", "z", "zz"))

    def test_fewest(self):
        stand = Stand()
        for name, table, due in (("a", ((7,),), (1, 1)), ("b", TABLE, (2, 2)), ("c", ((1, 1, 1), (2, 2, 2)), (2, 1)),
                                 ("d", ((0, 1, 0),), (1, 2)), ("e", ((5,) * 12,) * 12, (1, 1))):
            stand.put(name, table)
            check_same(self, stand.fewest(name), due)
        stand.change("a", (0, 0), 8)
        stand.more("a", (9,))
        check_same(self, stand.fewest("a"), (2, 1))

    def test_no_name(self):
        stand = self.with_tellings(RIGHT)
        for name in NO_NAMES + ["a", "b", "abc"]:
            for asked in (stand.table, stand.kept, stand.fewest):
                self.check_nothing_done(stand, NoName, asked, name)

    def test_gone_is_of_the_last_deed(self):
        stand = self.with_tellings(RIGHT, EACH)
        stand.more("ab", (9, 9))
        check_same(self, stand.gone(), 2)
        # What is refused, and what is asked, is no deed.
        self.check_nothing_done(stand, NoName, stand.drop, "b")
        self.check_nothing_done(stand, NoBack, stand.back, 9)
        check_same(self, (stand.names(), stand.fewest("ab"), stand.gone()), (("ab",), (3, 2), 2))
        stand.put("b", ((1,),))
        check_same(self, stand.gone(), 0)
        stand.keep("b", ((0,), ((1,),)))
        check_same(self, stand.gone(), 0)
        stand.drop("b")
        check_same(self, stand.gone(), 1)
        stand.back(6)
        check_same(self, stand.gone(), 0)

    def test_two_stands_at_once(self):
        one, other = self.with_tellings(RIGHT), Stand()
        check_same(self, (other.names(), other.deeds()), ((), 0))
        other.put("ab", ((1,),))
        one.drop("ab")
        check_same(self, (one.names(), one.gone(), one.deeds()), ((), 1, 3))
        check_same(self, (other.names(), other.table("ab"), other.gone(), other.deeds()), (("ab",), ((1,),), 0, 1))
        one.back(0)
        check_same(self, other.deeds(), 1)

    def test_what_was_told_before_a_deed_is_not_changed_by_it(self):
        stand = self.with_tellings(RIGHT, WIDE)
        told = stand.names(), stand.table("ab"), stand.kept("ab"), stand.fewest("ab")
        before = kinds_of(told)
        stand.put("a", TABLE)
        stand.more("ab", (5, 6))
        stand.change("ab", (0, 0), 50)
        self.assertEqual(kinds_of(told), before)
        stand.drop("ab")
        stand.back(1)
        self.assertEqual(kinds_of(told), before)

    def test_what_is_handed_in_is_not_changed(self):
        handed = TABLE, RIGHT, (1, 2), (0, 0)
        before = kinds_of(handed)
        stand = self.with_tellings(RIGHT)
        stand.more("ab", handed[2])
        stand.change("ab", handed[3], 1)
        stand.drop("ab")
        stand.back(2)
        self.assertEqual(kinds_of(handed), before)


class ByItsMeaning(StandCase):

    def a_deed(self, chance, held):
        """A deed that is not refused, for what is held."""
        name = chance.choice(["a", "b", "ab", "abcdefgh"])
        if name not in held:
            return "put", name, a_table(chance, chance.randint(1, 4), chance.randint(1, 2), 2)
        table, _ = held[name]
        what = chance.choice(["keep", "keep", "keep", "more", "change", "drop"])
        if what == "keep":
            words, answers = one_word(table)
            return "keep", name, (words, answers + a_table(chance, chance.randint(0, 2), len(table[0]), 2))
        if what == "more" and len(table) < 12:
            return "more", name, tuple(chance.randrange(2) for _ in table[0])
        if what == "change":
            pair = chance.randrange(len(table)), chance.randrange(len(table[0]))
            return "change", name, pair, chance.randrange(2)
        return "drop", name

    def test_deeds_and_backs(self):
        for seed in range(30):
            chance = Random(422 + seed)
            stand, model = Stand(), Model()
            for _ in range(40):
                if chance.random() < 0.1:
                    many = chance.randint(0, len(model.done))
                    stand.back(many)
                    model.back(many)
                else:
                    what, *handed = self.a_deed(chance, model.held()[0])
                    getattr(stand, what)(*handed)
                    model.do((what, *handed))
                self.assertEqual(told_by_stand(stand), model.told())

    def test_very_many_deeds(self):
        stand = Stand()
        letters = "abcdefghijklmnopqrstuvwxyz"
        names = [one + other for one in letters for other in letters]
        for name in names:
            stand.put(name, TABLE)
            stand.keep(name, RIGHT)
        check_same(self, stand.deeds(), 2 * len(names))
        for k in range(3000):
            stand.change("ab", (0, 0), k % 100)
        check_same(self, stand.deeds(), 2 * len(names) + 3000)
        stand.back(2 * len(names) - 1)
        check_same(self, (stand.table("ab"), stand.kept("zz"), stand.kept("ab")), (TABLE, (), (RIGHT,)))
        check_same(self, stand.names(), tuple(names))


if __name__ == "__main__":
    unittest.main()
