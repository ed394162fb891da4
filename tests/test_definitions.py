"""[23] to [25]: definitions and libraries, and [1] to [4] as far as they speak of them."""

import itertools
import random
import unittest

from everylevel.books import Book
from everylevel.definitions import Definition, Library
from everylevel.errors import InvalidDefinition, InvalidLevel, InvalidLibrary, InvalidNumbers, NoName
from everylevel.following import follows, unlike
from everylevel.leaving import joined
from everylevel.levels import put_for
from everylevel.papers import paper, paper_holds
from everylevel.solutions import can_be, highest, lowest, span

from tests.tools import RIGHT_DEMANDS, RIGHT_LEVELS, WRONG_LEVELS, any_values, drawn_book, drawn_bound, drawn_level
from tests.tools import drawn_demand, reckoned, tried, wrong_demands

PAIR = Definition("pair", ["u", "v"], ["x"], ["u < x", "x <= v"])
TWICE = Definition("tw", ["u"], ["y"], ["y <= 5"], [("pair", ["u", "y"]), ("pair", ["y", "6"])])
SHUT = Definition("shut", ["u"], [], ["u < u"])
BOOK = Book.read("names u v w\nu + 1 <= max(v, w)\nv <= w")
# Texts with imax, which are right where a level or a demand need not be plain.
NOT_PLAIN = ["imax(u, v)", "imax(u, v) + 1", "max(imax(u, v), u)", "imax(1, 0)", "max(u, imax(0, v)) + 2"]


def let(definitions, name, numbers, most):
    """Whether a call is let, with inner numbers up to `most`, tried one by one."""
    return _let({each.name: each for each in definitions}, {}, name, tuple(numbers), most)


def _let(known, seen, name, numbers, most):
    if (name, numbers) in seen:
        return seen[name, numbers]
    this = known[name]
    names = (*this.params, *this.inner)
    keeps = reckoned(names, " and ".join([f"({demand})" for demand in this.demands] + ["True"]))
    calls = [(called, [reckoned(names, level) for level in levels]) for called, levels in this.calls]
    told = False
    for inner in itertools.product(range(most + 1), repeat=len(this.inner)):
        row = (*numbers, *inner)
        if keeps(*row) and all([_let(known, seen, called, tuple([level(*row) for level in levels]), most)
                                for called, levels in calls]):
            told = True
            break
    seen[name, numbers] = told
    return told


def put_in_demand(demand, others):
    for sign in (" <= ", " < ", " = "):
        if sign in demand:
            return sign.join([put_for(level, others) for level in demand.split(sign)])
    raise ValueError(demand)


def opened(definitions, name):
    """The book of a definition with all that it calls written in its place, each call with names of its own."""
    known = {each.name: each for each in definitions}
    fresh = iter(["q" + "".join(letters) for letters in itertools.product("abcdefghij", repeat=3)])
    names, demands = list(known[name].params), []

    def write(called, levels):
        this = known[called]
        inner = [next(fresh) for _ in this.inner]
        names.extend(inner)
        others = dict(zip((*this.params, *this.inner), (*levels, *inner)))
        demands.extend([put_in_demand(demand, others) for demand in this.demands])
        for further, texts in this.calls:
            write(further, [put_for(text, others) for text in texts])

    write(name, list(known[name].params))
    return Book(names, demands)


def let_in(book, params, numbers):
    """Whether some numbers keep an opened book in which the parameters have these numbers."""
    fixed = [f"{name} = {number}" for name, number in zip(params, numbers)]
    return can_be(Book(book.names, [*book.demands, *fixed]))


def drawn_library(chance, many, names=2, inner=2, demands=3, calls=2, most=2):
    """Definitions, each with calls of those ahead of it."""
    found = []
    for at in range(many):
        many_params = chance.randrange(1, names + 1)
        params = chance.sample("uvw"[:many_params], many_params)
        own = list("xy")[:chance.randrange(inner + 1)]
        both = params + own
        written = [drawn_bound(chance, both) if len(both) > 1 and chance.random() < 0.7
                   else drawn_demand(chance, both, True) for _ in range(chance.randrange(demands + 1))]
        called = []
        for _ in range(chance.randrange(calls + 1) if found else 0):
            other = found[-1] if chance.random() < 0.6 else chance.choice(found)
            called.append((other.name, [drawn_level(chance, both, True) for _ in other.params]))
        found.append(Definition("abcdefgh"[at], params, own, written, called))
    return found


class Making(unittest.TestCase):

    def wrong(self, word, *arguments, **named):
        with self.assertRaises(InvalidDefinition, msg=repr((arguments, named))[:90]) as caught:
            Definition(*arguments, **named)
        self.assertEqual(caught.exception.word, word)

    def test_attributes(self):
        made = Definition("tw", ["u"], ("y", "x"), ["y <= 5"], [("pair", ["u", "y"]), ("pair", ("y", "6"))])
        self.assertEqual((made.name, made.params, made.inner, made.demands), ("tw", ("u",), ("y", "x"), ("y <= 5",)))
        self.assertEqual(made.calls, (("pair", ("u", "y")), ("pair", ("y", "6"))))
        for thing in (made.params, made.inner, made.demands, made.calls, made.calls[0], made.calls[1][1]):
            self.assertIs(type(thing), tuple)
        least = Definition("a", ("a",), [], ())
        self.assertEqual((least.name, least.params, least.inner, least.demands, least.calls), ("a", ("a",), (), (), ()))
        self.assertEqual(Definition("a", ["u"], [], [], [("b", [])]).calls, (("b", ()),))
        self.assertEqual(Definition("a", ["u"], [], [], [("a", ["u"])]).calls, (("a", ("u",)),))

    def test_by_names(self):
        self.assertEqual(Definition(calls=[], demands=["u < x", "x <= v"], inner=["x"], params=["u", "v"], name="pair"), PAIR)

    def test_equal(self):
        parts = ["a", ["u", "v"], ["x"], ["u < x"], [("b", ["u"])]]
        others = ["b", ["v", "u"], ["y", "x"], ["u < x", "u < x"], [("b", ["v"])]]
        one = Definition(*parts)
        self.assertTrue(one == Definition("a", ("u", "v"), ("x",), ("u < x",), (("b", ("u",)),)))
        self.assertFalse(one != Definition(*parts))
        for at, other in enumerate(others):
            self.assertFalse(one == Definition(*[other if here == at else part for here, part in enumerate(parts)]), at)
            self.assertTrue(one != Definition(*[other if here == at else part for here, part in enumerate(parts)]), at)
        self.assertFalse(one == Definition(*parts[:4]))
        for thing in [*any_values(), tuple(parts), Library([]), Book(["u", "v"], ["u < v"])]:
            self.assertFalse(one == thing)
            self.assertFalse(thing == one)

    def test_wrong_name(self):
        for name in any_values() + ["max", "imax", "abcde", "U", "a1", "a b", ("a",), ["a"], PAIR, b"a", {"a"}]:
            self.wrong("name", name, ["u"], [], [])
            self.wrong("name", name, None, None, None, None)

    def test_wrong_params(self):
        for params in any_values() + [["u", "v", "u"], ["max"], ("u", "imax"), "u", {"u"}, {"u": 1}, iter(["u"])]:
            self.wrong("params", "a", params, [], [])
            self.wrong("params", "a", params, None, None, None)
        for name in any_values():
            self.wrong("params", "a", ["u", name], [], [])

    def test_wrong_inner(self):
        for inner in any_values():
            if inner not in ([], ()):
                self.wrong("inner", "a", ["w"], inner, [])
        for inner in (["u"], ["x", "u"], ("v", "x"), ["x", "x"], ["max"], "x", {"x"}, {"x": 1}, iter(["x"])):
            self.wrong("inner", "a", ["u", "v"], inner, [])
            self.wrong("inner", "a", ["u", "v"], inner, None, None)
        for name in any_values():
            self.wrong("inner", "a", ["w"], ["x", name], [])

    def test_wrong_demands(self):
        for demands in any_values():
            if demands not in ([], (), ["u <= v"]):
                self.wrong("demands", "a", ["u"], ["v"], demands)
        for demand in wrong_demands() + any_values() + [f"{level} <= u" for level in NOT_PLAIN] + ["u = imax(v, u)"]:
            self.wrong("demands", "a", ["u"], ["v", "w"], [demand])
            self.wrong("demands", "a", ["u"], ["v", "w"], ("u <= v", demand), None)
        for demand in ("x <= u", "u < max(v, x)", "uu = u", "max(u, x) <= v"):
            self.wrong("demands", "a", ["u"], ["v"], [demand])
        for demands in ("u <= v", {"u <= v"}, {"u <= v": 1}, iter(["u <= v"])):
            self.wrong("demands", "a", ["u", "v"], [], demands)

    def test_wrong_calls(self):
        for calls in any_values():
            if calls not in ([], ()):
                self.wrong("calls", "a", ["u"], ["v"], [], calls)
        for call in any_values() + ["b", ("b",), ("b", ["u"], ["v"]), ["b", ["u"]], ("b", "u"), ("b", None), ("b", {"u"}),
                                    ("b", {"u": 1}), ("max", ["u"]), ("abcde", ["u"]), (None, ["u"]), (PAIR, ["u"]),
                                    (["b"], ["u"]), (["u"], "b"), PAIR]:
            self.wrong("calls", "a", ["u"], ["v"], [], [call])
            self.wrong("calls", "a", ["u"], ["v"], [], [("b", ["u"]), call])
            self.wrong("calls", "a", ["u"], ["v"], [], (("b", ("u",)), call, None))
        for level in WRONG_LEVELS + any_values() + NOT_PLAIN + ["x", "max(u, x)", "uu + 1"]:
            self.wrong("calls", "a", ["u"], ["v"], [], [("b", [level])])
            self.wrong("calls", "a", ["u"], ["v", "w"], [], [("b", ("u", level, "v"))])

    def test_right_demands_and_levels(self):
        names = ["v", "w", "imag", "maxi", "ima", "axm", "zzzz"]
        demands = [demand for demand in RIGHT_DEMANDS if "imax" not in demand]
        levels = [level for level in RIGHT_LEVELS if "imax" not in level]
        made = Definition("imag", ["u"], names, demands, [("maxi", levels)])
        self.assertEqual((made.demands, made.calls), (tuple(demands), (("maxi", tuple(levels)),)))

    def test_the_first_wrong_argument(self):
        wrong = {"name": "U", "params": [], "inner": ["u"], "demands": ["u"], "calls": None}
        right = {"name": "a", "params": ["u"], "inner": ["x"], "demands": [], "calls": []}
        for at, word in enumerate(wrong):
            named = {key: (wrong if here >= at else right)[key] for here, key in enumerate(wrong)}
            self.wrong(word, **named)
            self.wrong(word, **{**right, word: wrong[word]})

    def test_later_changes_have_no_effect(self):
        params, inner, demands, levels = ["u"], ["x"], ["u < x", "x <= 4"], ["u"]
        calls = [("a", levels)]
        made = Definition("b", params, inner, demands, calls)
        same = Definition("b", ["u"], ["x"], ["u < x", "x <= 4"], [("a", ["u"])])
        params.append("v")
        inner[0] = "y"
        demands.clear()
        levels[0] = "x"
        calls.append(None)
        self.assertEqual(made, same)
        self.assertEqual(made.calls, (("a", ("u",)),))


class MakingLibraries(unittest.TestCase):

    def wrong(self, at, definitions):
        with self.assertRaises(InvalidLibrary, msg=repr(definitions)[:90]) as caught:
            Library(definitions)
        self.assertEqual(caught.exception.at, at)

    def test_attributes(self):
        for definitions in ([], [PAIR], (PAIR, TWICE), [SHUT, PAIR, TWICE]):
            library = Library(definitions)
            self.assertEqual(library.definitions, tuple(definitions))
            self.assertIs(type(library.definitions), tuple)
            self.assertEqual(len(library), len(definitions))
        self.assertEqual(Library(definitions=[PAIR]).definitions, (PAIR,))

    def test_no_sequence(self):
        for thing in any_values():
            if not isinstance(thing, (list, tuple)):
                self.wrong(0, thing)
        for thing in (PAIR, Library([PAIR]), {"pair": PAIR}, iter([PAIR])):
            self.wrong(0, thing)

    def test_things_that_are_no_definitions(self):
        for thing in any_values() + [Library([]), ("pair", ["u"], [], []), "pair"]:
            self.wrong(0, [thing])
            self.wrong(1, [PAIR, thing])
            self.wrong(2, (PAIR, TWICE, thing, None))

    def test_names_twice(self):
        self.wrong(1, [PAIR, PAIR])
        self.wrong(2, [PAIR, TWICE, Definition("pair", ["u"], [], [])])
        self.wrong(1, (SHUT, Definition("shut", ["v"], [], []), None))

    def test_calls_that_can_not_be(self):
        self.wrong(0, [TWICE])
        self.wrong(0, [TWICE, PAIR])
        self.wrong(1, [SHUT, TWICE, PAIR])
        self.wrong(0, [Definition("a", ["u"], [], [], [("a", ["u"])])])
        for levels in ([], ["u"], ["u", "u", "u"]):
            self.wrong(1, [PAIR, Definition("a", ["u"], [], [], [("pair", levels)])])
            self.wrong(1, [PAIR, Definition("a", ["u"], [], [], [("pair", ["u", "u"]), ("pair", levels)]), None])
        self.wrong(2, [PAIR, TWICE, Definition("a", ["u"], [], [], [("tw", ["u"]), ("twi", ["u"])])])
        self.assertEqual(len(Library([PAIR, TWICE, Definition("a", ["u"], [], [], [("tw", ["u"]), ("pair", ["u", "9"])])])), 3)

    def test_later_changes_have_no_effect(self):
        definitions = [PAIR, TWICE]
        library = Library(definitions)
        definitions[1] = SHUT
        definitions.append(None)
        self.assertEqual(library.definitions, (PAIR, TWICE))
        self.assertEqual(library.stuck(), ())
        self.assertTrue(library.lets("tw", [0]))


class Lets(unittest.TestCase):

    def test_against_trying(self):
        chance = random.Random(24)
        counts = {True: 0, False: 0}
        for _ in range(120):
            definitions = drawn_library(chance, chance.choice((1, 2, 3)), inner=1, demands=3, calls=2)
            library = Library(definitions)
            for this in definitions:
                book = opened(definitions, this.name)
                # With the greatest of the numbers that are tried, too: so far [10] has the inner numbers go.
                reach = book.with_demand("u <= 3").reach
                if reach > 24:
                    continue
                for numbers in itertools.product(range(4), repeat=len(this.params)):
                    told = let(definitions, this.name, numbers, reach)
                    counts[told] += 1
                    self.assertIs(library.lets(this.name, numbers), told, (str(book), numbers))
        self.assertTrue(min(counts.values()) > 300, counts)

    def test_three_deep_against_the_opened_book(self):
        chance = random.Random(241)
        counts = {}
        for _ in range(150):
            definitions = drawn_library(chance, 4, names=3, calls=2)
            library = Library(definitions)
            for at, this in enumerate(definitions):
                book = opened(definitions, this.name)
                self.assertEqual(at in library.stuck(), not can_be(book))
                for _ in range(12):
                    numbers = [chance.randrange(8) for _ in this.params]
                    told = library.lets(this.name, numbers)
                    self.assertIs(told, let_in(book, this.params, numbers), (str(book), numbers))
                    counts[at, told] = counts.get((at, told), 0) + 1
        self.assertTrue(all([counts.get((at, told), 0) > 100 for at in range(4) for told in (True, False)]), counts)

    def test_the_names_of_each_call_are_its_own(self):
        same = Definition("same", ["u"], ["x"], ["x = u"])
        both = Definition("both", ["u"], ["x"], ["x = u + 5"], [("same", ["u"]), ("same", ["u + 1"]), ("same", ["x"])])
        library = Library([same, both, Definition("top", ["u"], ["x"], ["x < u"], [("both", ["x"]), ("both", ["u"])])])
        self.assertEqual([library.lets("both", [number]) for number in (0, 1, 9)], [True, True, True])
        self.assertEqual([library.lets("top", [number]) for number in (0, 1, 9)], [False, True, True])

    def test_levels_are_put_in_at_once(self):
        less = Definition("less", ["u", "v"], [], ["u < v"])
        swap = Definition("swap", ["u", "v"], [], [], [("less", ["v", "u"])])
        turn = Definition("turn", ["v", "u"], ["x"], [], [("less", ["u + 1", "x"]), ("swap", ["max(v, 3)", "x"])])
        library = Library([less, swap, turn])
        self.assertEqual([library.lets("swap", row) for row in ((1, 2), (2, 1), (1, 1))], [False, True, False])
        # u + 1 < x and x < max(v, 3)
        for v, u in itertools.product(range(7), repeat=2):
            self.assertIs(library.lets("turn", [v, u]), u + 2 < max(v, 3), (v, u))

    def test_levels_are_those_of_the_parameters_in_their_order(self):
        less = Definition("less", ["w", "u", "v"], ["x"], ["w < x", "x <= u", "v = 3"])
        calls = Definition("top", ["v", "u"], [], [], [("less", ["v", "u + 1", "3"])])
        library = Library([less, calls])
        for v, u in itertools.product(range(4), repeat=2):
            self.assertIs(library.lets("top", [v, u]), v <= u)
        book = Book(["v", "u"], ["v <= u"])
        self.assertTrue(library.fits("top", book, ["v", "u"]))
        self.assertFalse(library.fits("top", book, ["u", "v"]))
        self.assertTrue(library.fits("less", book, ["v", "u + 1", "3"]))
        self.assertFalse(library.fits("less", book, ["u + 1", "3", "v"]))

    def test_three_deep(self):
        one = Definition("one", ["u", "v"], ["x"], ["u < x", "x < v"])
        two = Definition("two", ["u", "v"], ["x"], [], [("one", ["u", "x"]), ("one", ["x", "v"])])
        three = Definition("thr", ["v", "u"], ["x"], ["x <= 9"], [("two", ["v", "x"]), ("two", ["x + 1", "u"])])
        library = Library([one, two, three])
        for u, v in itertools.product(range(12), repeat=2):
            self.assertIs(library.lets("one", (u, v)), u + 2 <= v)
            self.assertIs(library.lets("two", (u, v)), u + 4 <= v)
            self.assertIs(library.lets("thr", (u, v)), u + 9 <= v and u + 4 <= 9)

    def test_a_call_that_is_never_let(self):
        library = Library([SHUT, Definition("a", ["u", "v"], ["x"], [], [("shut", ["x"])]), PAIR,
                           Definition("b", ["u"], [], ["u <= 3"], [("a", ["u", "4"])])])
        self.assertEqual(library.stuck(), (0, 1, 3))
        self.assertIs(library.lets("shut", [5]), False)
        self.assertIs(library.lets("a", [0, 0]), False)
        self.assertIs(library.lets("b", [0]), False)
        self.assertEqual(library.face("a").names, ("u", "v"))
        self.assertFalse(can_be(library.face("b")))

    def test_without_demands_or_inner_names(self):
        library = Library([Definition("a", ["u"], [], []), Definition("b", ["u", "v"], ["x", "y"], []),
                           Definition("c", ["u"], ["x"], [], [("a", ["x"]), ("b", ["x", "u"])])])
        self.assertEqual(library.stuck(), ())
        for name, numbers in (("a", [0]), ("b", (7, 0)), ("c", [999])):
            self.assertIs(library.lets(name, numbers), True)
        self.assertEqual(Library([]).stuck(), ())

    def test_great_numbers(self):
        far = Definition("far", ["u", "v"], [], ["u + 9999 <= v"])
        twice = Definition("more", ["u", "v"], ["x"], [], [("far", ["u + 9999", "x"]), ("far", ["x", "v"])])
        library = Library([far, twice])
        self.assertEqual([library.lets("more", [5, 5 + 29997 - less]) for less in (0, 1)], [True, False])
        self.assertTrue(library.fits("more", Book(["u"]), ["u", "u + 9999 + 9999 + 9999"]))
        self.assertFalse(library.fits("more", Book(["u"]), ["u", "u + 9999 + 9999 + 9998"]))


class Faces(unittest.TestCase):

    def test_against_lets(self):
        chance = random.Random(25)
        for _ in range(60):
            definitions = drawn_library(chance, 4, names=3)
            library = Library(definitions)
            for this in definitions:
                face = library.face(this.name)
                self.assertIs(type(face), Book)
                self.assertEqual(face.names, this.params)
                self.assertTrue(face.is_plain)
                book = opened(definitions, this.name)
                for numbers in itertools.product((0, 1, 2, 5), repeat=len(this.params)):
                    self.assertIs(face.keeps(numbers), let_in(book, this.params, numbers))

    def test_order_of_the_parameters(self):
        library = Library([Definition("a", ["w", "u", "v"], ["x"], ["w < x", "x < u", "u <= v"])])
        self.assertEqual(library.face("a").names, ("w", "u", "v"))
        self.assertEqual([library.face("a").keeps(row) for row in ((0, 2, 2), (0, 1, 1), (2, 0, 0))], [True, False, False])

    def test_it_hangs_on_the_faces_alone(self):
        chance = random.Random(251)
        for _ in range(40):
            definitions = drawn_library(chance, 3)
            faces = [Definition(this.name, this.params, [], Library(definitions).face(this.name).demands)
                     for this in definitions[:-1]]
            last = definitions[-1].name
            one, other = Library(definitions).face(last), Library([*faces, definitions[-1]]).face(last)
            self.assertIsNone(unlike(one, other))

    def test_results_go_on(self):
        chance = random.Random(252)
        for _ in range(20):
            library = Library(drawn_library(chance, 4, names=3))
            for this in library.definitions:
                face = library.face(this.name)
                told = paper(face)
                self.assertEqual(told is None, can_be(face))
                self.assertEqual(paper_holds(face, told), told is not None)
                for row in lowest(face):
                    self.assertTrue(library.lets(this.name, row))
                tops = highest(face, [9] * len(this.params))
                self.assertTrue(tops is None or library.lets(this.name, tops))
                self.assertIsNone(unlike(face, joined(face, face)))
                self.assertEqual(span(face, this.params[0]) is None, not can_be(face))
                self.assertEqual(Book.read(str(face)), face)

    def test_at_the_limits(self):
        chance = random.Random(253)
        names = list("uvwxy")
        for _ in range(12):
            found = []
            for at in range(5):
                demands = [drawn_bound(chance, names) for _ in range(5)]
                calls = [(found[-1 if way < 2 else 0].name, [drawn_level(chance, names, True) for _ in range(3)])
                         for way in range(3 if found else 0)]
                found.append(Definition("abcde"[at], names[:3], names[3:], demands, calls))
            library = Library(found)
            for at, this in enumerate(found[:3]):
                book = opened(found, this.name)
                self.assertEqual(at in library.stuck(), not can_be(book))
                for _ in range(4):
                    numbers = [chance.randrange(20) for _ in range(3)]
                    self.assertIs(library.lets(this.name, numbers), let_in(book, this.params, numbers))

    def test_demands_do_not_pile_up(self):
        wide = "max(u, v, w, u + 1, max(v + 2, w), 3, max(u, max(v, w + 1)))"
        found = [Definition("a", ["u", "v", "w"], [], [f"{wide} <= max(u + 9, v + 9, w)", "u <= v + 3"])]
        for name in ("b", "c", "d", "e"):
            calls = [(found[-1].name, [wide, f"{wide} + 4", "w"])] * 3
            found.append(Definition(name, ["u", "v", "w"], [], ["v <= w + 2"], calls))
        library = Library(found)
        for this in found:
            self.assertLess(len(str(library.face(this.name))), 1000)


class Fits(unittest.TestCase):

    def test_against_lets(self):
        chance = random.Random(254)
        counts = {True: 0, False: 0}
        while min(counts.values()) < 120:
            definitions = drawn_library(chance, 2, names=2)
            library = Library(definitions)
            name = definitions[-1].name
            face = library.face(name)
            book = drawn_book(chance, chance.choice(("u", "vz", "uz")), True)
            levels = [drawn_level(chance, book.names, True) for _ in face.names]
            put = [put_in_demand(demand, dict(zip(face.names, levels))) for demand in face.demands]
            wide = Book(book.names, [*book.demands, *put])
            reach = wide.reach + len(book.names)
            if (reach + 1) ** len(book.names) > 2000:
                continue
            worths = [reckoned(book.names, level) for level in levels]
            told = all([library.lets(name, [worth(*row) for worth in worths]) for row in tried(book, reach)])
            self.assertIs(library.fits(name, book, levels), told, (str(face), str(book), levels))
            counts[told] += 1

    def test_edges(self):
        library = Library([PAIR, TWICE, SHUT, Definition("free", ["u"], [], [])])
        self.assertIs(library.fits("pair", BOOK, ["u", "w"]), True)
        self.assertIs(library.fits("pair", BOOK, ("w", "u")), False)
        self.assertIs(library.fits("pair", BOOK, ["u", "v"]), False)
        self.assertIs(library.fits("pair", BOOK, ["max(u, v)", "max(u, v) + 1"]), True)
        nothing = Book.read("names u\nu < u")
        self.assertIs(library.fits("shut", nothing, ["u"]), True)
        self.assertIs(library.fits("shut", Book(["u"]), ["u"]), False)
        self.assertIs(library.fits("shut", Book(["u"]), ["0"]), False)
        self.assertIs(library.fits("free", Book(["v"]), ["v + 9"]), True)
        self.assertIs(library.fits("tw", Book(["u"], ["u <= 4"]), ["u"]), True)
        self.assertIs(library.fits("tw", Book(["u"], ["u <= 4"]), ["u + 1"]), False)

    def test_names_of_the_book_are_not_those_of_the_parameters(self):
        library = Library([PAIR])
        book = Book(["x", "u"], ["x < u"])
        self.assertTrue(library.fits("pair", book, ["x", "u"]))
        self.assertFalse(library.fits("pair", book, ["u", "x"]))
        self.assertTrue(library.fits("pair", Book(["v"]), ["v", "v + 1"]))


class Refused(unittest.TestCase):

    def setUp(self):
        self.library = Library([PAIR, TWICE, SHUT])

    def refused(self, error, call, *arguments):
        with self.assertRaises(error, msg=repr(arguments)[:90]) as caught:
            call(*arguments)
        return caught.exception

    def test_names(self):
        for name in any_values() + ["u", "pairs", "PAIR", "x", ("pair",), ["pair"], b"pair", PAIR, {"pair": 1}]:
            for library in (self.library, Library([])):
                for call, *arguments in ((library.face,), (library.lets, [1]), (library.lets, None),
                                         (library.fits, BOOK, ["u"]), (library.fits, BOOK, [None])):
                    self.assertIs(self.refused(NoName, call, name, *arguments).name, name)
        self.refused(NoName, Library([]).face, "pair")

    def test_numbers(self):
        for name, many in (("pair", 2), ("tw", 1), ("shut", 1)):
            right = [1] * many
            for thing in any_values():
                if type(thing) is not int or thing < 0:
                    for at in range(many):
                        numbers = [*right[:at], thing, *right[at + 1:]]
                        self.assertEqual(self.refused(InvalidNumbers, self.library.lets, name, numbers).at, at)
            for thing in [thing for thing in any_values() if not isinstance(thing, (list, tuple))] + ["12", b"12", {1: 2}]:
                self.assertEqual(self.refused(InvalidNumbers, self.library.lets, name, thing).at, 0)
            for numbers in ([], [1] * (many + 1), (-1,) * (many + 1), [None] * (many + 1)):
                self.assertEqual(self.refused(InvalidNumbers, self.library.lets, name, numbers).at, 0)
        self.assertEqual(self.refused(InvalidNumbers, self.library.lets, "pair", (True, -1)).at, 0)
        self.assertEqual(self.refused(InvalidNumbers, self.library.lets, "pair", [3, -1]).at, 1)

    def test_levels(self):
        for level in WRONG_LEVELS + any_values() + ["x", "max(u, x)", "u + x", "uu"]:
            self.refused(InvalidLevel, self.library.fits, "shut", BOOK, [level])
            self.refused(InvalidLevel, self.library.fits, "pair", BOOK, ["u", level])
            self.refused(InvalidLevel, self.library.fits, "pair", Book(["u"], ["u < u"]), (level, "u"))
        free = Library([Definition("free", ["u"], [], [])])
        self.refused(InvalidLevel, free.fits, "free", BOOK, ["x"])

    def test_nothing_is_changed(self):
        numbers, levels = [1, 3], ["u", "w"]
        book = Book(["u", "w"], ["u < w"])
        first = (self.library.lets("pair", numbers), self.library.fits("pair", book, levels), str(self.library.face("pair")))
        self.refused(InvalidNumbers, self.library.lets, "pair", [1, None])
        self.refused(InvalidLevel, self.library.fits, "pair", book, ["u", "x"])
        self.library.stuck()
        again = (self.library.lets(numbers=numbers, name="pair"), self.library.fits(levels=levels, book=book, name="pair"),
                 str(self.library.face(name="pair")))
        self.assertEqual(again, first)
        self.assertEqual((numbers, levels, str(book)), ([1, 3], ["u", "w"], "names u w\nu < w"))
        self.assertTrue(follows(self.library.face("pair"), "u < v"))


if __name__ == "__main__":
    unittest.main()
