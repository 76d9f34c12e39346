"""[41] A desk: rows answered, rows refused."""

import unittest
from random import Random

from tellfew.desk import Desk
from tellfew.errors import NoBack, NoFit, NoName, NoRow, Taken, TellError, Wrong
from tellfew.fairwords import fair_words
from tellfew.ranks import ranked
from tellfew.stands import Stand
from tellfew.words import told_by
from tests.things import PRIMES, a_table, kinds_of, odd_things, some_tables

GREAT = "9" * 1900
# No numbers as in 6.
NO_NUMBERS = ["", "00", "01", "-1", "+1", "1.0", "1,", "a", "x1", "1a", "1_0", "0x1", "1\n", "\n1", "\t1", "/", ":",
              "~", "None"]
NO_NAMES = ["A", "aB", "", ":", "/", "1", "a/b", "ab:", "a:b", "toolongname", "abcdefghi", "a\tb", "-", "a.", "~"]


def written(table):
    return " / ".join(" ".join(map(str, row)) for row in table)


def kept_row(name, telling):
    return f"keep {name} {' '.join(map(str, telling[0]))} : {written(telling[1])}"


def told_by_desk(desk):
    """What the desk answers of some names, and how many tellings the last deed took away."""
    told = [desk.say("gone")]
    for name in ("ab", "zz", "a"):
        for row in (f"few {name}", f"kept {name}", f"ask {name} 0 0", f"rank {name} 0", f"ask {name} 11 11"):
            told.append(answer_to(desk, row))
    return told


def answer_to(desk, row):
    try:
        return desk.say(row)
    except TellError as refusal:
        return type(refusal).__name__


class DeskCase(unittest.TestCase):

    def setUp(self):
        self.desk = Desk()

    def check_said(self, *rows):
        """Each row, and what is answered, in turn."""
        for row, answer in zip(rows[::2], rows[1::2]):
            told = self.desk.say(row)
            self.assertIs(type(told), str)
            self.assertEqual(told, answer, row[:200])

    def check_refused(self, refusal, *rows):
        """Each row is refused with just this class, and nothing is changed then."""
        before = told_by_desk(self.desk)
        for row in rows:
            given = kinds_of(row)
            with self.subTest(row=repr(row)[:200]):
                with self.assertRaises(refusal) as caught:
                    self.desk.say(row)
                self.assertIs(type(caught.exception), refusal)
                self.assertEqual(kinds_of(row), given)
        self.assertEqual(told_by_desk(self.desk), before)

    def deeds(self):
        """How many deeds the desk's stand has done: the greatest number to go back to."""
        for many in range(100):
            other = answer_to(self.desk, f"back {99 - many}")
            if other == "ok":
                return 99 - many
        return None


class Rows(DeskCase):

    def test_a_day_at_the_desk(self):
        self.check_said(
            "put ab 0 0 1 / 0 1 1", "ok", "few ab", "2 3", "kept ab", "0", "gone", "0", "ask ab 1 2", "none",
            "keep ab 0 1 : 0 0 1 / 0 1 1", "ok", "ask ab 1 2", "1 1", "ask ab 0 1", "0 0", "kept ab", "1",
            "keep ab 0 0 : 0 0 1", "wrong 1 1", "kept ab", "1", "rank ab 0", "2", "rank ab 2", "2", "fair ab 1", "1/2",
            "fair ab 2", "0/1", "more ab 0 0 1", "ok", "ask ab 2 2", "0 1", "few ab", "2 3", "more ab 1 1 1", "ok",
            "gone", "1", "kept ab", "0", "ask ab 3 0", "none", "change ab 3 0 0", "ok", "few ab", "2 3", "gone", "0",
            "fair ab 1", "1/2", "back 3", "ok", "kept ab", "1", "gone", "0", "few ab", "2 3", "ask ab 2 0", "0 0",
            "drop ab", "ok", "gone", "1", "back 0", "ok", "gone", "0")
        self.check_refused(NoName, "few ab", "kept ab", "drop ab")

    def test_no_texts(self):
        self.check_refused(NoRow, *[thing for thing in odd_things() if not isinstance(thing, str)])
        self.check_refused(NoRow, ["gone"], ("gone",), {"gone": 1}, None, True, 0, ("put", "ab", "1"), ["put ab 1"])

    def test_odd_texts(self):
        self.check_refused(NoRow, *[thing for thing in odd_things() if isinstance(thing, str)])
        self.check_refused(NoRow, "", " ", "  ", "\n", "Gone", "GONE", "gone.", "go", "gones", "puts ab 1", "PUT ab 1",
                           "say",
                           "tells", "names", "table ab", "fewest ab", "deeds", "1", ":", "/", "ab", "ab put 1",
                           "~" * 2000)

    def test_blanks_and_line_ends(self):
        self.check_said("put ab 1 2 / 3 4", "ok", "keep ab 0 1 : 1 2 / 3 4", "ok")
        rows = ["put zz 1 2 / 3 4", "more ab 1 2", "change ab 0 0 1", "keep ab 0 1 : 1 2 / 3 4", "few ab", "rank ab 0",
                "ask ab 0 0", "kept ab", "fair ab 1", "gone", "back 1", "drop ab"]
        for row in rows:
            self.check_refused(NoRow, row + " ", " " + row, "\n" + row, row + "  ", row + " \n", row + "\n" + row)
            words = row.split(" ")
            for at in range(1, len(words)):
                ahead, behind = " ".join(words[:at]), " ".join(words[at:])
                self.check_refused(NoRow, ahead + "  " + behind)
                if at != 2:
                    self.check_refused(NoRow, ahead + "\n " + behind, ahead + "\t " + behind)
                if at > 2:
                    self.check_refused(NoRow, ahead + "\n" + behind, ahead + " \n" + behind)
            if len(words) != 2:
                self.check_refused(NoRow, row + "\n", row + "\t")

    def test_a_name_with_a_line_end_is_no_name(self):
        # NAME is the second word, any.
        self.check_said("put ab 1 2 / 3 4", "ok")
        self.check_refused(NoName, "few ab\n", "kept \nab", "drop ab\n", "put ab\n 1", "put zz\n 1", "more ab\n 1 2",
                           "ask a\nb 0 0", "fair \n 1", "few ab\nab", "keep ab\n 0 1 : 1 2 / 3 4")

    def test_too_few_or_too_many_words(self):
        self.check_said("put ab 1 2 / 3 4", "ok", "keep ab 0 1 : 1 2 / 3 4", "ok")
        self.check_refused(NoRow, "put", "put ab", "put zz", "more", "more ab", "change", "change ab", "change ab 0",
                           "change ab 0 0", "change ab 0 0 1 1", "drop", "drop ab ab", "keep", "keep ab", "keep ab 0 1",
                           "keep ab 0 1 :", "back", "back 1 1", "few", "few ab 1", "few ab ab", "rank", "rank ab",
                           "rank ab 2 2", "ask", "ask ab", "ask ab 0", "ask ab 0 0 0", "kept", "kept ab 1", "fair",
                           "fair ab",
                           "fair ab 1 1", "gone 1", "gone ab", "gone gone")
        self.assertEqual(self.deeds(), 2)

    def test_name_is_any_word(self):
        self.check_said("put ab 1 2 / 3 4", "ok")
        for name in NO_NAMES + ["zz", "a", "abc"]:
            self.check_refused(NoName, f"more {name} 1 2", f"more {name} 1 2 3", f"change {name} 0 0 1", f"drop {name}",
                               f"keep {name} 0 1 : 1 2 / 3 4", f"keep {name} 0 : 9", f"few {name}", f"rank {name} 0",
                               f"ask {name} 0 0", f"kept {name}", f"fair {name} 1", f"ask {name} {GREAT} {GREAT}",
                               f"change {name} {GREAT} 0 0")
        for name in NO_NAMES:
            self.check_refused(NoName, f"put {name} 1", f"put {name} 1 2 / 3 4")

    def test_no_such_row_goes_ahead_of_no_name(self):
        for name in ["zz"] + NO_NAMES:
            self.check_refused(NoRow, f"put {name} 1 /", f"more {name} 100", f"change {name} 0 0 100",
                               f"change {name} x 0 1",
                               f"keep {name} 1 : 1", f"keep {name} : 1", f"rank {name} 1", f"rank {name} 4",
                               f"ask {name} 0 a",
                               f"fair {name} 0", f"fair {name} 13", f"kept {name} x", f"drop {name} x", f"few {name} x")

    def test_two_desks_at_once(self):
        other = Desk()
        self.check_said("put ab 1", "ok")
        self.assertEqual(answer_to(other, "few ab"), "NoName")
        self.assertEqual(other.say("put ab 1 2"), "ok")
        self.check_said("few ab", "1 1", "back 0", "ok")
        self.assertEqual(other.say("few ab"), "1 2")


class Put(DeskCase):

    def test_tables(self):
        for at, table in enumerate(some_tables(451, 20, 12, 100) + [((0,),), ((99,),)]):
            self.check_said(f"put ab {written(table)}", "ok")
            rows = [f"change ab {i} {j} {answer}" for i, row in enumerate(table) for j, answer in enumerate(row)]
            self.check_said("few ab", f"{len(set(table))} {len(set(zip(*table)))}", rows[0], "ok", "back 1", "ok")
            telling = tuple(range(len(table))), table
            self.check_said(kept_row("ab", telling), "ok", f"ask ab {len(table) - 1} 0",
                            f"{len(table) - 1} {table[-1][0]}")
            self.check_said("back 0", "ok")

    def test_tables_as_in_6(self):
        table = ((7, 10, 0), (99, 1, 0))
        self.check_said("put ab 7 10 0 / 99 1 0", "ok", kept_row("ab", ((0, 1), table)), "ok", "ask ab 0 1", "0 10")
        self.check_refused(NoRow, *[f"put zz {text}" for text in (
            "", " ", "/", "1 /", "/ 1", "1 / ", " / 1", "1 / / 1", "1 /  / 1", "1/1", "1 /1", "1/ 1", "1 // 1",
            "1 / 2 3", "1 2 / 3",
            "1 2 / 3 4 5", "1  2", "1 2 ", " 1 2", "100", "1 100", "01", "1 00", "-1", "+1", "1.0", "a", "1 a", "1,2",
            "1 : 2",
            "1\n2", "1 2\n3 4", "1 \n 2", "1\n/\n2", "1 /\n2", "1\n/ 2", "1\n", "\n1", "1\t2", "1 / 2\n", "9" * 1900,
            "None")])

    def test_tables_beyond_a_bound(self):
        self.check_said("put ab " + written(((5,) * 12,) * 12), "ok", "few ab", "1 1")
        for m, n in ((13, 1), (1, 13), (13, 13), (12, 13), (13, 12), (50, 1), (1, 200)):
            self.check_refused(NoRow, "put zz " + written(((5,) * n,) * m), "put ab " + written(((5,) * n,) * m))

    def test_taken(self):
        self.check_said("put ab 1 2", "ok")
        self.check_refused(Taken, "put ab 1 2", "put ab 7")
        self.check_refused(NoRow, "put ab", "put ab 100")
        self.assertEqual(self.deeds(), 1)


class Deeds(DeskCase):

    def setUp(self):
        super().setUp()
        self.check_said("put ab 1 2 / 3 4", "ok", "keep ab 0 1 : 1 2 / 3 4", "ok", "keep ab 1 2 : 9 9 / 1 2 / 3 4",
                        "ok")

    def test_more(self):
        self.check_said("more ab 9 9", "ok", "gone", "1", "kept ab", "1", "ask ab 2 0", "0 9", "few ab", "3 2")
        self.check_said("more ab 99 0", "ok", "gone", "1", "kept ab", "0", "few ab", "4 2")

    def test_more_refused(self):
        self.check_refused(NoFit, "more ab 1", "more ab 1 2 3", "more ab " + " ".join("1" * 12))
        self.check_refused(NoRow, "more ab " + " ".join("1" * 13), "more ab " + " ".join("1" * 900),
                           "more ab 1 2 / 3 4",
                           "more ab 1 / 2", "more ab 1 2 /", "more ab 1 100", "more ab 100 1 1", "more ab 1 02",
                           "more ab : 1",
                           "more zz " + " ".join("1" * 13))
        self.check_refused(NoRow, *[f"more ab 1 {number}" for number in NO_NUMBERS])
        for _ in range(10):
            self.check_said("more ab 1 2", "ok")
        self.check_refused(NoFit, "more ab 1 2", "more ab 1", "more ab 1 2 3")
        self.check_refused(NoRow, "more ab " + " ".join("1" * 13))

    def test_change(self):
        self.check_said("change ab 1 0 99", "ok", "gone", "2", "kept ab", "0", "keep ab 0 1 : 1 2 / 99 4", "ok",
                        "change ab 1 0 99", "ok", "gone", "0", "kept ab", "1", "change ab 0 1 0", "ok", "gone", "1")

    def test_change_refused(self):
        self.check_refused(NoFit, "change ab 2 0 1", "change ab 0 2 1", "change ab 12 12 1", f"change ab {GREAT} 0 1",
                           f"change ab 0 {GREAT} 99", f"change ab {'8' * 900} {'7' * 900} 0")
        self.check_refused(NoRow, "change ab 0 0 100", "change ab 9 9 100", "change ab 0 0 " + GREAT,
                           "change ab 0 0 010")
        self.check_refused(NoRow, *[f"change ab {number} 0 1" for number in NO_NUMBERS])
        self.check_refused(NoRow, *[f"change ab 0 {number} 1" for number in NO_NUMBERS])
        self.check_refused(NoRow, *[f"change ab 0 0 {number}" for number in NO_NUMBERS])

    def test_drop(self):
        self.check_said("put zz 5", "ok", "drop ab", "ok", "gone", "2", "few zz", "1 1")
        self.check_refused(NoName, "drop ab", "few ab")

    def test_back(self):
        self.check_said("more ab 3 4", "ok", "drop ab", "ok", "back 4", "ok", "gone", "0", "kept ab", "2", "few ab",
                        "2 2",
                        "ask ab 2 1", "1 4", "back 4", "ok", "back 2", "ok", "kept ab", "1", "back 1", "ok", "kept ab",
                        "0")
        self.check_refused(NoRow, "ask ab 2 1")
        self.check_said("back 0", "ok", "back 0", "ok", "gone", "0")
        self.check_refused(NoName, "few ab")

    def test_back_refused(self):
        self.check_refused(NoBack, "back 4", "back 5", "back 100", "back " + GREAT)
        self.check_refused(NoRow, "back -1", "back ab", "back 1 2", "back",
                           *[f"back {number}" for number in NO_NUMBERS])
        self.check_said("back 3", "ok", "back 2", "ok")
        self.check_refused(NoBack, "back 3")

    def test_rows_that_only_ask_are_no_deeds(self):
        self.check_said("few ab", "2 2", "kept ab", "2", "gone", "0", "ask ab 0 0", "0 1", "rank ab 0", "2")
        self.assertEqual(self.deeds(), 3)


class Keep(DeskCase):

    def setUp(self):
        super().setUp()
        self.check_said("put ab 1 2 / 3 4 / 1 2", "ok")

    def test_kept(self):
        self.check_said("keep ab 1 0 1 : 3 4 / 1 2", "ok", "ask ab 0 1", "1 2", "ask ab 1 1", "0 4", "ask ab 2 0",
                        "1 1",
                        "keep ab 0 1 2 : 1 2 / 3 4 / 1 2", "ok", "kept ab", "2", "ask ab 2 0", "1 1",
                        "keep ab 0 1 0 : 1 2 / 3 4 / 0 0 / 0 0 / 0 0 / 0 0 / 0 0 / 0 0 / 0 0 / 0 0 / 0 0 / 99 99", "ok",
                        "kept ab", "3", "keep ab 1 0 1 : 3 4 / 1 2", "ok", "kept ab", "4", "gone", "0")

    def test_wrong(self):
        self.check_said("keep ab 0 0 0 : 1 2", "wrong 1 0", "keep ab 0 0 0 : 3 2", "wrong 0 0", "kept ab", "0",
                        "keep ab 0 1 1 : 1 2 / 3 4", "wrong 2 0", "keep ab 0 1 0 : 1 2 / 3 99", "wrong 1 1")
        self.assertEqual(self.deeds(), 1)

    def test_wrong_at_the_last_pair(self):
        table = a_table(Random(452), 12, 12, 99)
        other = table[:11] + (table[11][:11] + (99,),)
        self.check_said("put zz " + written(table), "ok", kept_row("zz", (tuple(range(12)), other)), "wrong 11 11")
        self.check_said(kept_row("zz", (tuple(range(12)), table)), "ok", "ask zz 11 11", f"11 {table[11][11]}")

    def test_other_sizes(self):
        self.check_refused(NoFit, "keep ab 0 : 1", "keep ab 0 1 : 1 2 / 3 4", "keep ab 0 1 0 0 : 1 2 / 3 4",
                           "keep ab 0 0 0 : 1",
                           "keep ab 0 1 0 : 1 2 3 / 3 4 5", "keep ab " + "0 " * 12 + ": 1 2",
                           "keep ab 0 0 0 : " + written(((0,) * 12,) * 12))

    def test_no_telling_of_any_sizes(self):
        self.check_refused(NoRow, "keep ab 0 1 0", "keep ab : 1 2", "keep ab : ", "keep ab 0 1 0 :", "keep ab 0 1 0 : ",
                           "keep ab 0 2 0 : 1 2 / 3 4", "keep ab 0 1 0 : 1 2", f"keep ab 0 {GREAT} 0 : 1 2 / 3 4",
                           "keep ab 0 1 0 : 1 2 / 3", "keep ab 0 1 0 : 1 / 3 4", "keep ab 0 1 0 : 1 2 / 3 4 5",
                           "keep ab 0 1 0 : 1 2 / 3 100", "keep ab 0 1 0 : 1 2 / 3 04", "keep ab 0 1 0 : 1 2 / / 3 4",
                           "keep ab 0 1 0 : 1 2 /", "keep ab 0 1 0 : / 1 2", "keep ab 0 1 0 / 1 2 / 3 4",
                           "keep ab 0 1 0 1 2 / 3 4",
                           "keep ab 0 1 0 : : 1 2 / 3 4", "keep ab 0 1 0 : 1 2 : 3 4", "keep ab 0 / 1 / 0 : 1 2 / 3 4",
                           "keep ab 0 1 0: 1 2 / 3 4", "keep ab 0 1 0 :1 2 / 3 4", "keep ab 0 1 0:1 2 / 3 4",
                           "keep ab  : 1 2", "keep ab 0 1 0 : 1 2\n3 4", "keep ab 0 1 0 : 1 2 /\n3 4",
                           "keep ab 0 1 0\n: 1 2 / 3 4")
        self.check_refused(NoRow, *[f"keep ab 0 {number} 0 : 1 2 / 3 4" for number in NO_NUMBERS])
        self.check_refused(NoRow, *[f"keep ab 0 1 0 : 1 2 / {number} 4" for number in NO_NUMBERS])

    def test_beyond_a_bound(self):
        rows = ((1, 2), (3, 4))
        self.check_refused(NoRow, "keep ab " + "0 " * 13 + ": 1 2", "keep ab " + "0 " * 500 + ": 1 2",
                           "keep ab 0 0 0 : " + written(((0,) * 13,)),
                           "keep ab 0 1 0 : " + written(rows + ((0, 0),) * 11),
                           "keep ab 0 1 0 : " + written(rows + ((0, 0),) * 100), "keep zz " + "0 " * 13 + ": 1 2")
        self.check_said("keep ab 0 1 0 : " + written(rows + ((0, 0),) * 10), "ok")

    def test_refusals_in_their_order(self):
        self.check_refused(NoRow, "keep zz 0 1 : 1 2", "keep zz 0")
        self.check_refused(NoName, "keep zz 0 : 9", "keep zz 0 0 0 : 9 9", "keep : 0 : 1", "keep / 0 : 1 / 2",
                           "keep  0 : 1")
        self.check_refused(NoFit, "keep ab 0 : 9", "keep ab 0 0 : 9 9")


class Asked(DeskCase):

    def test_few(self):
        for table, answer in ((((7,),), "1 1"), (((1, 1, 2), (1, 1, 2)), "1 2"), (((0,) * 12,) * 12, "1 1"),
                              (tuple((k,) for k in range(12)), "12 1"), ((tuple(range(12)),), "1 12")):
            self.check_said("put ab " + written(table), "ok", "few ab", answer, "back 0", "ok")

    def test_rank(self):
        for table in some_tables(453, 6, 6, 100) + [((0, 0),), a_table(Random(454), 12, 12, 100)]:
            self.check_said("put ab " + written(table), "ok")
            for p in (0, 2, 3, 5, 89, 97):
                self.check_said(f"rank ab {p}", str(len(ranked(table, p)[0])))
            self.check_said("back 0", "ok")

    def test_rank_by_a_number_that_is_no_prime(self):
        self.check_said("put ab 1 2 / 3 4", "ok")
        for p in range(0, 130):
            if p == 0 or p in PRIMES:
                self.check_said(f"rank ab {p}", "1" if p == 2 else "2")
            else:
                self.check_refused(NoRow, f"rank ab {p}")
        self.check_refused(NoRow, "rank ab 9409", "rank ab " + GREAT, *[f"rank ab {number}" for number in NO_NUMBERS])

    def test_ask(self):
        self.check_said("put ab 1 2 / 3 4", "ok", "ask ab 0 0", "none", "ask ab 1 1", "none",
                        "keep ab 1 0 : 3 4 / 1 2", "ok", "keep ab 0 1 : 1 2 / 3 4", "ok", "ask ab 0 0", "1 1",
                        "ask ab 0 1", "1 2",
                        "ask ab 1 0", "0 3", "ask ab 1 1", "0 4")

    def test_ask_of_no_such_pair(self):
        self.check_said("put ab 1 2 3 / 4 5 6", "ok")
        rows = ("ask ab 2 0", "ask ab 0 3", "ask ab 2 3", "ask ab 12 12", f"ask ab {GREAT} 0", f"ask ab 0 {GREAT}")
        self.check_refused(NoRow, *rows)
        self.check_said("ask ab 1 2", "none", "keep ab 0 1 : 1 2 3 / 4 5 6", "ok", "ask ab 1 2", "1 6")
        self.check_refused(NoRow, *rows)
        self.check_refused(NoName, *[row.replace("ab", "zz") for row in rows])
        self.check_refused(NoRow, *[f"ask ab {number} 0" for number in NO_NUMBERS])
        self.check_refused(NoRow, *[f"ask ab 0 {number}" for number in NO_NUMBERS])

    def test_kept_and_gone(self):
        self.check_said("gone", "0", "put ab 1", "ok", "kept ab", "0", "gone", "0")
        for many in range(1, 13):
            self.check_said("keep ab 0 : 1", "ok", "kept ab", str(many), "gone", "0")
        self.check_said("change ab 0 0 2", "ok", "kept ab", "0", "gone", "12", "kept ab", "0", "gone", "12")
        self.check_refused(NoName, "drop zz")
        self.check_said("gone", "12", "back 13", "ok", "gone", "0", "kept ab", "12", "drop ab", "ok", "gone", "12")

    def test_fair(self):
        for table in [((0, 1), (1, 0)), ((1, 2, 3), (4, 5, 6), (7, 8, 9), (0, 0, 0)), ((7,),), ((0, 1, 2),) * 4,
                      ((0, 0, 0), (0, 1, 1), (1, 0, 1), (1, 1, 0))]:
            self.check_said("put ab " + written(table), "ok")
            for many in (1, 2, 3, 12):
                top, bottom = fair_words(table, many)[0]
                self.check_said(f"fair ab {many}", f"{top}/{bottom}")
            self.check_said("back 0", "ok")
        self.check_said("put ab 0 1 / 1 0", "ok", "fair ab 1", "1/2", "fair ab 2", "0/1", "put zz 0 / 1 / 2", "ok",
                        "fair zz 1", "2/3", "fair zz 2", "1/3", "fair zz 3", "0/1")

    def test_fair_too_great(self):
        for m, n in ((5, 1), (1, 4), (5, 4), (6, 3), (12, 12)):
            self.check_said("put ab " + written(((5,) * n,) * m), "ok", "fair ab 1", "too great", "fair ab 12",
                            "too great")
            self.check_refused(NoRow, "fair ab 0", "fair ab 13")
            self.check_said("back 0", "ok")

    def test_fair_refused(self):
        self.check_said("put ab 0 1 / 1 0", "ok")
        self.check_refused(NoRow, "fair ab 0", "fair ab 13", "fair ab 14", "fair ab 100", "fair ab " + GREAT,
                           "fair ab 01")
        self.check_refused(NoRow, *[f"fair ab {number}" for number in NO_NUMBERS])
        self.check_refused(NoName, "fair zz 1", "fair zz 12")


class ByTheStand(DeskCase):

    def a_row(self, chance):
        """A row, and what is asked of a stand for it."""
        name = chance.choice(["ab", "ab", "zz", "A", ""])
        m, n = chance.randint(1, 3), chance.randint(1, 2)
        table, pair = a_table(chance, m, n, 2), (chance.randint(0, 3), chance.randint(0, 2))
        telling = tuple(chance.randrange(m) for _ in range(chance.randint(1, 3))), table
        many, answer = chance.randint(0, 12), chance.randrange(2)
        return chance.choice([
            (f"put {name} {written(table)}", lambda stand: stand.put(name, table)),
            (f"put {name} {written(table)}", lambda stand: stand.put(name, table)),
            (f"more {name} {written(table[:1])}", lambda stand: stand.more(name, table[0])),
            (f"change {name} {pair[0]} {pair[1]} {answer}", lambda stand: stand.change(name, pair, answer)),
            (f"drop {name}", lambda stand: stand.drop(name)),
            (kept_row(name, telling), lambda stand: stand.keep(name, telling)),
            (kept_row(name, telling), lambda stand: stand.keep(name, telling)),
            (kept_row(name, telling), lambda stand: stand.keep(name, telling)),
            (f"back {many}", lambda stand: stand.back(many)),
        ])

    def told_by(self, stand, name):
        try:
            table, tellings = stand.table(name), stand.kept(name)
        except NoName:
            return ["NoName"] * 4
        asked = "none"
        if tellings:
            asked = f"{tellings[0][0][-1]} {told_by(tellings[0], len(table) - 1, 0)}"
        rows, cols = stand.fewest(name)
        return [f"{rows} {cols}", str(len(tellings)), asked, str(len(ranked(table, 2)[0]))]

    def test_deeds(self):
        for seed in range(25):
            chance = Random(455 + seed)
            desk, stand = Desk(), Stand()
            for _ in range(60):
                row, deed = self.a_row(chance)
                due = "ok"
                try:
                    deed(stand)
                except Wrong as wrong:
                    due = f"wrong {wrong.row} {wrong.column}"
                except TellError as refusal:
                    due = type(refusal).__name__
                self.assertEqual(answer_to(desk, row), due, row)
                self.assertEqual(desk.say("gone"), str(stand.gone()))
                for name in ("ab", "zz"):
                    last = len(stand.table(name)) - 1 if name in stand.names() else 0
                    rows = [f"few {name}", f"kept {name}", f"ask {name} {last} 0", f"rank {name} 2"]
                    self.assertEqual([answer_to(desk, asked) for asked in rows], self.told_by(stand, name))


if __name__ == "__main__":
    unittest.main()
