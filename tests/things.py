"""Things that tests hand in, and what several tests ask of what they are told."""

from itertools import product
from random import Random

PRIMES = (2, 3, 5, 7, 11, 13, 17, 19, 23, 29, 31, 37, 41, 43, 47, 53, 59, 61, 67, 71, 73, 79, 83, 89, 97)


def nested(thing, many, kind=tuple):
    """thing, put many times into a tuple (list) of its own."""
    for _ in range(many):
        thing = kind([thing])
    return thing


def nested_dict(thing, many):
    for _ in range(many):
        thing = {"end": thing}
    return thing


def odd_things():
    """Things of many kinds, none of them a table, tree, telling, paper or text of such."""
    return [
        None, True, False, 0, 1, -1, 7, 99, 100, 10 ** 39, -(10 ** 39),
        "", " ", "\n", "\t", "x", "end", "row", "col", "None", "()", "~" * 2000, "end 100", "row 01",
        (), [], {}, ((),), ([],), ({},), [[]], ((), ()), (None,), (True,), (0,), (1, 2), ("",), ("x", "y"),
        (None, None), (0, 0), ((), ((),)), ("end",), ("end", None), ("row", (), (), ()), ("col",),
        [1, 2], [[1, 2], [3, 4]], ["end", 3], {"end": 3}, {0: 1, 1: 2}, {"rows": (0,), "cols": ()},
        ((1, 2), 3), ((1,), None), (((1,),),), ("1 2", "3 4"), (((1,), (2,)),), (1, (2, 3)), ("end", 3, 4, 5, 6),
        nested(1, 29), nested((), 29), nested(1, 29, list), nested_dict(1, 29), nested("end", 29),
        tuple([(0, 1)] * 1600) + (None,), tuple(range(4999)), ["end"] * 4999,
    ]


def kinds_of(thing):
    """thing's parts with their kinds: 1 and True, which are equal, differ here."""
    if isinstance(thing, (tuple, list)):
        return [type(thing).__name__] + [kinds_of(part) for part in thing]
    if isinstance(thing, dict):
        return ["dict"] + [[kinds_of(key), kinds_of(thing[key])] for key in thing]
    return [type(thing).__name__, thing]


def check_same(test, told, expected):
    """told is expected, part by part of the same kind."""
    test.assertEqual(kinds_of(told), kinds_of(expected))


def check_true(test, told):
    test.assertIs(told, True)


def check_false(test, told):
    test.assertIs(told, False)


def check_none_of(test, asked, things):
    """asked tells False of all things, and leaves each of them as it was."""
    for thing in things:
        before = kinds_of(thing)
        with test.subTest(thing=repr(thing)[:200]):
            check_false(test, asked(thing))
            test.assertEqual(kinds_of(thing), before)


def check_refused(test, refusal, asked, things):
    """asked refuses all things with just this class, and leaves each of them as it was."""
    for thing in things:
        before = kinds_of(thing)
        with test.subTest(thing=repr(thing)[:200]):
            with test.assertRaises(refusal) as caught:
                asked(thing)
            test.assertIs(type(caught.exception), refusal)
            test.assertEqual(kinds_of(thing), before)


def a_table(chance, m, n, answers=2):
    """A table of m rows and n columns with answers below that number."""
    return tuple(tuple(chance.randrange(answers) for _ in range(n)) for _ in range(m))


def some_tables(seed, many, most=5, answers=3):
    chance = Random(seed)
    return [a_table(chance, chance.randint(1, most), chance.randint(1, most), answers) for _ in range(many)]


def a_tree(chance, m, n, depth, knots=200, answers=100):
    """A tree of at most that depth, with at most that many knots besides ends."""
    if depth == 0 or knots == 0 or chance.random() < 0.1:
        return ("end", chance.randrange(answers))
    who = chance.choice(["row", "col"])
    signs = tuple(chance.randrange(2) for _ in range(m if who == "row" else n))
    first = (knots - 1) // 2
    t = a_tree(chance, m, n, depth - 1, first, answers)
    return (who, signs, t, a_tree(chance, m, n, depth - 1, knots - 1 - first, answers))


def a_long_tree(m, n, depth):
    """A tree of one long way, told by row and column in turn."""
    tree = ("end", 0)
    for k in range(depth):
        signs = tuple((k + at) % 2 for at in range(m if k % 2 else n))
        tree = ("row" if k % 2 else "col", signs, ("end", k), tree)
    return tree


def a_great_tree(m, n):
    """A tree of ten signs and two hundred knots."""
    # 127 knots on seven signs, 71 more in the place of ends, two ahead of all.
    tree, _ = with_more_knots(a_full_tree(m, n, 7, 0), 71, m, n)
    tree = ("col", (1,) * n, ("end", 99), tree)
    return ("row", tuple(k % 2 for k in range(m)), ("end", 10), tree)


def a_full_tree(m, n, depth, at):
    """Both branches at each knot go on to the same depth."""
    if depth == 0:
        return ("end", at % 100)
    who = "row" if (at + depth) % 2 else "col"
    signs = tuple((at >> (k % 5)) & 1 for k in range(m if who == "row" else n))
    t = a_full_tree(m, n, depth - 1, 2 * at)
    return (who, signs, t, a_full_tree(m, n, depth - 1, 2 * at + 1))


def with_more_knots(tree, spare, m, n):
    """The tree with knots in the place of ends, as many as are spare; and how many are left."""
    if tree[0] == "end":
        if spare == 0:
            return tree, 0
        return ("col", tuple(k % 2 for k in range(n)), tree, ("end", 1)), spare - 1
    t, spare = with_more_knots(tree[2], spare, m, n)
    u, spare = with_more_knots(tree[3], spare, m, n)
    return (tree[0], tree[1], t, u), spare


def knots_of(tree):
    """How many knots a tree has besides ends."""
    return 0 if tree[0] == "end" else 1 + knots_of(tree[2]) + knots_of(tree[3])


def of_other_kinds(thing):
    """All of thing with one part of another kind: lists and texts for tuples, truths and None for numbers."""
    if not isinstance(thing, tuple):
        others = [None, True, False, [thing], (thing,), {}, ""]
        return others + ([str(thing)] if isinstance(thing, int) else [0, thing + " "])
    others = [list(thing), dict(enumerate(thing)), str(thing), None, True, False, 0, 7]
    for at, part in enumerate(thing):
        others += [thing[:at] + (other,) + thing[at + 1:] for other in of_other_kinds(part)]
    return others


def with_part(thing, way, part):
    """thing with another part at the end of the way, a tuple of places."""
    if way == ():
        return part
    at = way[0]
    return thing[:at] + (with_part(thing[at], way[1:], part),) + thing[at + 1:]


def some_draws(chance, table, many, words, answers, most=9):
    """So many draws in common for the table, of tellings of so many words."""
    m, n = len(table), len(table[0])
    draws = []
    for _ in range(many):
        telling = (tuple(chance.randrange(words) for _ in range(m)), a_table(chance, words, n, answers))
        draws.append((chance.randint(1, most), telling))
    return tuple(draws)


def a_three(chance, sizes, depth, knots=200, answers=100):
    """A tree of three of at most that depth, with at most that many knots besides ends."""
    if depth == 0 or knots == 0 or chance.random() < 0.1:
        return ("end", chance.randrange(answers))
    who = chance.randrange(3)
    first, second = [size for k, size in enumerate(sizes) if k != who]
    signs = a_table(chance, first, second)
    spare = (knots - 1) // 2
    t = a_three(chance, sizes, depth - 1, spare, answers)
    return (who, signs, t, a_three(chance, sizes, depth - 1, knots - 1 - spare, answers))


def a_great_three(sizes):
    """A tree of three of ten signs and two hundred knots."""
    a, b, c = sizes
    signs = [tuple(tuple((i + j + k) % 2 for j in range(n)) for i in range(m))
             for k, (m, n) in enumerate(((b, c), (a, c), (a, b)))]

    def full(depth, spare):
        if depth == 0:
            return ("end", 10) if spare == 0 else (1, signs[1], ("end", 11), ("end", 12))
        return (depth % 3, signs[depth % 3], full(depth - 1, spare // 2), full(depth - 1, spare - spare // 2))
    return (2, signs[2], ("end", 13), (0, signs[0], full(7, 71), ("end", 14)))


def a_cube(chance, sizes, answers=2):
    """A cube of these sizes with answers below that number."""
    a, b, c = sizes
    return tuple(a_table(chance, b, c, answers) for _ in range(a))


def some_cubes(seed, many, answers=3):
    chance = Random(seed)
    return [a_cube(chance, tuple(chance.randint(1, 3) for _ in range(3)), answers) for _ in range(many)]


def words_of_signs(k):
    """All words of k signs, rising."""
    return ["".join(word) for word in product("01", repeat=k)]


def a_question(chance, n, ones=0.5):
    """A question of n signs, with about that share of answers 1."""
    return n, "".join("1" if chance.random() < ones else "0" for _ in range(2 ** n))


def some_questions(seed, many, most=6):
    chance = Random(seed)
    return [a_question(chance, chance.randint(1, most), chance.choice([0.1, 0.5, 0.9])) for _ in range(many)]


def well_known_questions():
    """Questions of which it is known by how few states they are read, of one sign and of six."""
    asked = []
    for n in (1, 2, 3, 6):
        words = words_of_signs(n)
        asked += [(n, "0" * 2 ** n), (n, "1" * 2 ** n), (n, "".join(word[0] for word in words))]
        asked += [(n, "".join(word[-1] for word in words))]
        asked += [(n, "".join(str(word.count("1") % 2) for word in words))]
        asked += [(n, "".join(str(int(word == word[::-1])) for word in words))]
        asked += [(n, "".join(str(int(word.count("1") * 2 > n)) for word in words))]
    return asked


def a_machine(chance, n, most):
    """A machine for words of n signs with at most that many states in a layer; to some perhaps nothing leads."""
    sizes = [1] + [chance.randint(1, most) for _ in range(n)]
    layers = tuple(tuple((chance.randrange(after), chance.randrange(after)) for _ in range(size))
                   for size, after in zip(sizes, sizes[1:]))
    return layers, tuple(chance.randrange(2) for _ in range(sizes[n]))
