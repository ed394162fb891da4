"""What several tests need: any values, wrong texts, and levels as trees to compare with."""

import itertools
import random

from everylevel import errors
from everylevel.books import Book


def nested(thing, depth):
    for _ in range(depth):
        thing = [thing]
    return thing


def any_values():
    """Any values: none is a level, a demand, a text of a book or a sequence of names."""
    return [
        0, 1, -1, 10 ** 30, True, False, None, "", " ", "\n", "U", "?", "u v w",
        [], (), [[]], [None], [True], [0], (1, 2), ["U"], ["u", 3], ("u", "u"), [["u"]],
        ["u <= v"], nested("u", 8), nested(0, 8),
        Book(["u"]), [Book(["u"])], errors.InvalidLevel(), errors.NoName("u"),
    ]


DEEP_WRONG = [
    "max(" * 250, "imax(" * 200, "max(" * 100000, "max(u, " * 50000, "imax(u, " * 50000,
    "max(u, " * 300 + "u" + ")" * 299, "max(u, " * 300 + "u" + ")" * 301,
    "(" * 1000, ")" * 1000, "(" * 500 + "u" + ")" * 500, "u" * 1000, "u + " * 250, "1" * 1000,
]

WRONG_LEVELS = [
    # brackets and how many levels stand in them
    "max", "imax", "max()", "imax()", "max(u)", "imax(u)", "imax(u, v, w)", "max(u, v", "max(u, v))",
    "max(u, v)w", "u)", "(u)", "(u + 1)", "()", "max(u, v,)", "max(u, v, )", "max(, u)", "max(u, , v)",
    "max(u, )v", "max(u, v + )1", "max(w, max(u, v)max(", "max(w, max(u, v)u", "max(w, max(u, v)1",
    "max(w, max(u, v) + 1imax(", "u, v", "max[u, v]", "max(u; v)", "imax(u, v", "max((u, v))", "max(u, (v))",
    # max and imax are no names, other words are no calls
    "max + 1", "imax + 1", "max(max, u)", "max(u, imax)", "imax(u, max)", "min(u, v)", "umax(u, v)",
    "maxi(u, v)", "Max(u, v)", "u(v, w)", "1max(u, v)",
    # blanks
    " u", "u ", "u + 1 ", "u+1", "u +1", "u+ 1", "u  + 1", "u +  1", "u\t+ 1", "u\n", "\nu", "u\n+ 1",
    "u\u00a0+ 1", "max(u,v)", "max(u,  v)", "max(u ,v)", "max( u, v)", "max(u, v )", "max (u, v)",
    "max(u,\nv)", "max(u,\tv)",
    # sums
    "u + v", "1 + u", "u + max(1, 2)", "+ 1", " + 1", "u +", "u + ", "u + + 1", "u - 1", "u * 2", "u 1",
    "u v", "u + -1", "u + +1", "1u", "u1", "max(u, v) + w", "max(u, v) v",
    # numerals
    "-1", "+1", "00", "01", "0001", "u + 01", "u + 00", "10000", "12345", "00000", "u + 10000", "1_0",
    "1.0", "1e2", "0x1", "\u0661", "u + \u0661", "\u00b2", "\uff11",
    # names
    "U", "uV", "abcde", "u_", "u-v", "u'", "\u00fc", "\u0430", "\uff55", "u\u0301", "u + u1",
] + DEEP_WRONG

RIGHT_DEMANDS = [
    "u <= v", "u < v", "u = v", "0 <= 0", "u + 1 + 2 < 9999", "max(u, v) = imax(v, u + 1)", "imag < maxi",
]

RIGHT_LEVELS = [
    "0", "7", "10", "9999", "u", "zzzz", "maxi", "imag", "ima", "axm", "u + 0", "u + 9999", "1 + 2",
    "u + 1 + 2", "max(u, v)", "max(u, u)", "max(0, 0)", "max(u, v, w, 3, u)", "imax(u, v)",
    "imax(1, 0) + 3", "max(u + 1, imax(v, w + 2) + 3, 4) + 5", "imax(max(u, v), imax(w, u))",
]

WRONG_DEMANDS = [
    "u", "u + 1", "u<=v", "u <=v", "u<= v", "u  <= v", "u <=  v", " u <= v", "u <= v ", "u <= v\n",
    "u\n<= v", "u\t<= v", "u >= v", "u > v", "u == v", "u != v", "u =< v", "u => v", "u \u2264 v",
    "u <= v <= w", "u < v < w", "u = v = w", "u < v <= w", "u <= v = w", "u <= ", " <= v", "u < ",
    " < v", "u = ", " = v", " <= ", "<=", "u v", "u < = v", "(u <= v)", "max(u <= v, w)",
]


def wrong_demands():
    """Texts that are no demands, also with each of the wrong levels on a side."""
    left = [f"{level} <= u" for level in WRONG_LEVELS]
    right = [f"u < {level}" for level in WRONG_LEVELS]
    return WRONG_DEMANDS + RIGHT_LEVELS + WRONG_LEVELS + left + right


def tree(chance, names, depth, words=("+", "max", "imax")):
    """A level as a tree, drawn with a `random.Random`."""
    if depth == 0 or chance.random() < 0.25:
        return chance.choice(list(names) * 2 + [0, 1, 2])
    word = chance.choice(words)
    if word == "+":
        return ("+", tree(chance, names, depth - 1, words), chance.randrange(3))
    many = 2 if word == "imax" else chance.choice((2, 2, 3))
    return (word, *[tree(chance, names, depth - 1, words) for _ in range(many)])


def text_of(level):
    """The text of a tree."""
    if not isinstance(level, tuple):
        return str(level)
    if level[0] == "+":
        return f"{text_of(level[1])} + {level[2]}"
    return f"{level[0]}({', '.join([text_of(part) for part in level[1:]])})"


def worth_of(level, numbers):
    """The value of a tree."""
    if isinstance(level, str):
        return numbers[level]
    if isinstance(level, int):
        return level
    if level[0] == "+":
        return worth_of(level[1], numbers) + level[2]
    parts = [worth_of(part, numbers) for part in level[1:]]
    return 0 if level[0] == "imax" and parts[-1] == 0 else max(parts)


def put_in(level, others):
    """The tree with other trees in the place of some names."""
    if isinstance(level, tuple):
        return (level[0], *[put_in(part, others) for part in level[1:]])
    return others.get(level, level)


def top_of(level):
    """The greatest number of an atom of a tree: its value with names as 0 and imax as max."""
    if not isinstance(level, tuple):
        return level if isinstance(level, int) else 0
    if level[0] == "+":
        return top_of(level[1]) + level[2]
    return max([top_of(part) for part in level[1:]])


def changed(chance, level, names):
    """The tree with a small change at one place."""
    if not isinstance(level, tuple) or chance.random() < 0.2:
        return chance.choice([("max", level, chance.choice(names)), ("imax", level, chance.choice(names)),
                              ("imax", chance.choice(names), level), ("max", level, 1), ("+", level, 1),
                              chance.choice(names)])
    if level[0] == "imax" and chance.random() < 0.3:
        return ("max", *level[1:])
    if level[0] == "max" and len(level) == 3 and chance.random() < 0.3:
        return ("imax", *level[1:])
    at = 1 if level[0] == "+" else chance.randrange(1, len(level))
    return (*level[:at], changed(chance, level[at], names), *level[at + 1:])


def all_numbers(names, most):
    """All dicts of numbers up to `most` for some names."""
    for row in itertools.product(range(most + 1), repeat=len(names)):
        yield dict(zip(names, row))


def imax(low, high):
    return 0 if high == 0 else max(low, high)


def reckoned(names, text):
    """What a level or a demand of these names says, as a function: Python itself reads its text."""
    return eval(f"lambda {', '.join(names)}: {text.replace(' = ', ' == ')}", {"imax": imax, "max": max})


def tried(book, most):
    """All numbers up to `most` that keep a book, found by trying."""
    demands = [f"({demand})" for demand in book.demands] + ["True"]
    keeps = reckoned(book.names, " and ".join(demands))
    return [row for row in itertools.product(range(most + 1), repeat=len(book.names)) if keeps(*row)]


def drawn_level(chance, names, plain):
    words = ("+", "max") if plain else ("+", "max", "imax")
    return text_of(tree(chance, names, chance.choice((0, 1, 1, 2)), words))


def drawn_demand(chance, names, plain):
    low, high = drawn_level(chance, names, plain), drawn_level(chance, names, plain)
    return f"{low} {chance.choice(('<=', '<=', '<', '='))} {high}"


def drawn_bound(chance, names):
    """A demand that bounds one name or a number by the greatest of two."""
    def atom(name, most):
        number = chance.randrange(most + 1)
        return str(number) if name == "" else f"{name} + {number}" if number > 0 else name
    left, *right = chance.choice([*names, ""]), *chance.sample([*names, ""], 2)
    return f"{atom(left, 2)} {chance.choice(('<=', '<'))} max({', '.join([atom(name, 2) for name in right])})"


def drawn_book(chance, names, plain=False, most=4):
    """A small book: of any levels, or (a plain one) of bounds that hang on one another."""
    many = chance.randrange(most + 1)
    if plain and chance.random() < 0.6:
        return Book(list(names), [drawn_bound(chance, names) for _ in range(many + 2)])
    return Book(list(names), [drawn_demand(chance, names, plain) for _ in range(many)])


def small_books(seed, many, groups=("u", "uv", "vu", "uvw"), plain=None, most=4000):
    """Books, and all their numbers up to their reach; as many with imax as without, if plain is None."""
    chance = random.Random(seed)
    found = 0
    while found < many:
        is_plain = chance.random() < 0.5 if plain is None else plain
        book = drawn_book(chance, chance.choice(groups), is_plain)
        if (book.reach + 1) ** len(book.names) <= most:
            found += 1
            yield book, tried(book, book.reach)


# Books at the limits: so many names and demands, parts and depth.
WIDE_BOOKS = [
    "names u v w x y\nmax(u + 7, v + 3, w, x) <= max(v + 5, w + 1, max(x, y + 4), 7)\n"
    "v + 2 < max(u, w + 6)\nw + 5 <= max(max(u + 1, v), max(x, y), 6)\nmax(x + 3, 4) <= max(u, v + 7)\n"
    "y + 1 = max(u + 2, v, w)\nmax(u, v) <= max(w + 6, max(x, y + 1))\n"
    "max(max(u + 1, v + 2), max(w + 3, x + 4)) <= max(max(y + 4, x + 5), max(w + 4, v + 3))\nx <= max(y + 3, w)",
    "names u v w x y\nu + 7 <= max(v, w)\nv + 7 <= max(w, x)\nw + 7 <= max(x, y)\nx + 7 <= max(y, u)\n"
    "y + 7 <= max(u, v)\nu <= v + 6\nv <= w + 5\nw <= x + 4",
    "names u v w x y\nu + 7 <= max(v, w)\nv + 7 <= max(w, x)\nw + 7 <= max(x, y)\nx + 7 <= max(y, u)\n"
    "y <= max(u + 7, v + 7, w + 7, x + 7)\nu <= v + 6\nv <= w + 5\nw <= x + 4",
    "names u v w x\nimax(u + 8, imax(v, w)) <= max(x, imax(w + 3, u))\nmax(u, v) < imax(x + 2, max(v, imax(u, w)))\n"
    "imax(imax(u, v), imax(w, x)) <= imax(imax(x, w), imax(v, u)) + 5\nv + 9 <= max(w, x)\n"
    "imax(u, x) <= max(v + 4, w)\nw <= imax(u, v) + 9\nx <= max(u + 9, v + 9)\n1 <= max(u, imax(v, w))",
    "names u v w x\nimax(u + 1, v) < w\nimax(v + 1, w) < x\nimax(w + 1, x) < u\nimax(x + 1, u) < v\n"
    "1 <= u\n1 <= v\n1 <= w\n1 <= x",
]
