"""A stand: tables by names, and the tellings that are right of them now."""

from tellfew.errors import NoBack, NoFit, NoName, Taken, Wrong
from tellfew.likes import unlike_cols, unlike_rows
from tellfew.words import is_telling, wrong_pairs

# So many signs a name has at most.
NAME_SIGNS = 8
# To a table of so many rows no more are put.
MOST_ROWS = 12


class Stand:
    """Keeps tables by names, and for each of them tellings."""

    def __init__(self):
        self._held = {}
        self._past = []
        self._lost = 0

    def put(self, name, table):
        """Keep the table by a name that is not taken."""
        if not _is_name(name):
            raise NoName("a name is one to eight of the letters a to z")
        if name in self._held:
            raise Taken(f"a table is kept by {name}")
        self._do(name, (table, ()))

    def more(self, name, row):
        """Put a row more behind the table; of the tellings those stay that have a word for it."""
        table, tellings = self._of(name)
        if len(row) != len(table[0]):
            raise NoFit("not as long as the rows")
        if len(table) >= MOST_ROWS:
            raise NoFit("there are twelve rows")
        self._do(name, (table + (row,), tuple([_with_row(one, row) for one in tellings if row in one[1]])))

    def change(self, name, pair, answer):
        """Put another answer at the pair; of the tellings those stay that are right now."""
        table, tellings = self._of(name)
        i, j = pair
        if not 0 <= i < len(table) or not 0 <= j < len(table[0]):
            raise NoFit("no such pair")
        row = table[i][:j] + (answer,) + table[i][j + 1:]
        changed = table[:i] + (row,) + table[i + 1:]
        self._do(name, (changed, tuple([one for one in tellings if len(wrong_pairs(changed, one)) == 0])))

    def drop(self, name):
        """Keep the table and its tellings no more."""
        self._of(name)
        self._do(name, None)

    def keep(self, name, telling):
        """Keep one more telling of the table, a right one."""
        table, tellings = self._of(name)
        if not is_telling(len(table), len(table[0]), telling):
            raise NoFit("a telling of other sizes")
        wrong = wrong_pairs(table, telling)
        if wrong:
            i, j = wrong[0]
            raise Wrong(i, j)
        self._do(name, (table, (*tellings, telling)))

    def back(self, many):
        """Be what it was behind its first so many deeds."""
        if not 0 <= many <= len(self._past):
            raise NoBack("there are not so many deeds")
        while len(self._past) > many:
            name, before = self._past.pop()
            self._hold(name, before)
        self._lost = 0

    def names(self):
        """The names by which tables are kept, rising."""
        return tuple(sorted(self._held))

    def table(self, name):
        """The table that is kept by the name."""
        return self._of(name)[0]

    def kept(self, name):
        """The tellings that are kept of the table, in order."""
        return self._of(name)[1]

    def fewest(self, name):
        """How many unlike rows the table has, and how many unlike columns."""
        table = self._of(name)[0]
        return len(unlike_rows(table)), len(unlike_cols(table))

    def gone(self):
        """How many tellings the last deed took away."""
        return self._lost

    def deeds(self):
        """How many deeds were done."""
        return len(self._past)

    def _of(self, name):
        """(table, tellings) that are kept by the name."""
        # The name goes first: not everything may be looked up.
        if not _is_name(name) or name not in self._held:
            raise NoName("no table is kept by that name")
        return self._held[name]

    def _do(self, name, after):
        """A deed: behind it (table, tellings) are kept by the name, or nothing where after is None."""
        before = self._held.get(name)
        self._past.append((name, before))
        self._lost = max(0, _count(before) - _count(after))
        self._hold(name, after)

    def _hold(self, name, held):
        if held is None:
            del self._held[name]
        else:
            self._held[name] = held


def _is_name(thing):
    if not isinstance(thing, str) or not 1 <= len(thing) <= NAME_SIGNS:
        return False
    return all(["a" <= sign <= "z" for sign in thing])


def _with_row(telling, row):
    """The telling with the first word whose answers the row is for one row more."""
    words, answers = telling
    return (*words, answers.index(row)), answers


def _count(held):
    """How many tellings are held."""
    return 0 if held is None else len(held[1])
