"""[16] to [18]: bounds and papers, and [1] to [4] as far as they speak of them."""

import itertools
import random
import unittest

from everylevel.books import Book
from everylevel.leaving import without
from everylevel.levels import atoms
from everylevel.papers import bounds, paper, paper_holds
from everylevel.solutions import can_be

from tests.tools import WIDE_BOOKS, any_values, drawn_book, small_books, tried

WRONG = Book.read("names u v\nu + 1 <= max(u, v)\nv < u")
SHUT = [WRONG] + [Book.read(text) for text in (
    "names u\nu < u", "names u v\nu < v\nv < u", "names u v\n1 <= 0", "names u\nu + 1 = u",
    "names u v\n1 <= imax(u, v)\nv = 0", "names u v\nmax(u, v) < v", "names w u v\nw < v\nv < u\nu < max(v, w)",
    "names v u\n3 <= imax(u, v)\nmax(u, v) <= 2", "names u v\nimax(u, v) + 1 <= v\nu = u",
)]


def lots_of(names):
    """All lots of some names, ascending."""
    lots = [lot for many in range(len(names) + 1) for lot in itertools.combinations(sorted(names), many)]
    return sorted(lots)


def bounds_by_hand(book, zeros):
    found = [("", 1, ((name, 0),)) for name in book.names if name not in zeros]
    for demand in book.demands:
        sign = [sign for sign in (" <= ", " < ", " = ") if sign in demand][0]
        low, high = demand.split(sign)
        sides = [(low, high), (high, low)] if sign == " = " else [(low, high)]
        for left, right in sides:
            for name, number in atoms(left, zeros):
                found.append((name, number + (sign == " < "), atoms(right, zeros)))
    return tuple(sorted(set(found)))


def is_whole(thing):
    return type(thing) is int


def is_of_the_form(entry):
    if type(entry) is not tuple or len(entry) != 4 or type(entry[2]) is not tuple:
        return False
    pairs = all([type(pair) is tuple and len(pair) == 2 and is_whole(pair[1]) for pair in entry[2]])
    return type(entry[0]) is str and is_whole(entry[1]) and pairs and is_whole(entry[3])


def case_holds(book, zeros, entries):
    """[17], entry by entry."""
    if type(entries) is not tuple or len(entries) == 0 or not all([is_of_the_form(entry) for entry in entries]):
        return False
    many = len(entries)
    names = [entry[0] for entry in entries]
    known = bounds_by_hand(book, zeros)
    for x, a, right, height in entries:
        if names.count(x) != 1 or (x, a, right) not in known:
            return False
        for y, b in right:
            there = [entry[3] for entry in entries if entry[0] == y]
            if not there or many * (b - a) + 1 + there[0] > height:
                return False
    return True


def holds_by_hand(book, value):
    lots = lots_of(book.names)
    if type(value) is not tuple or len(value) != len(lots):
        return False
    for lot, case in zip(lots, value):
        if type(case) is not tuple or len(case) != 2 or type(case[0]) is not tuple or case[0] != lot:
            return False
        if not case_holds(book, lot, case[1]):
            return False
    return True


class Bounds(unittest.TestCase):

    def test_by_hand(self):
        for book, _ in small_books(16, 120):
            for lot in lots_of(book.names):
                found = bounds(book, lot)
                self.assertEqual(found, bounds_by_hand(book, lot), (str(book), lot))
                self.assertEqual(repr(bounds(book, list(lot))), repr(found))

    def test_say_what_the_demands_say(self):
        for book, rows in small_books(161, 60, ("u", "uv"), most=400):
            for row in itertools.product(range(book.reach + 1), repeat=len(book.names)):
                numbers = {"": 0, **dict(zip(book.names, row))}
                zeros = [name for name in book.names if numbers[name] == 0]
                kept = all([numbers[x] + a <= max([numbers[y] + b for y, b in right])
                            for x, a, right in bounds(book, zeros)])
                self.assertEqual(kept, row in rows, (str(book), row))

    def test_edges(self):
        least_u, least_v = ("", 1, (("u", 0),)), ("", 1, (("v", 0),))
        free = Book(["v", "u"])
        self.assertEqual(bounds(free, []), (least_u, least_v))
        self.assertEqual(bounds(free, ("v",)), (least_u,))
        self.assertEqual(bounds(free, ["v", "u"]), ())
        for demand, rows in (
            ("u <= v", [("u", 0, (("v", 0),))]), ("u < v", [("u", 1, (("v", 0),))]),
            ("u = v", [("u", 0, (("v", 0),)), ("v", 0, (("u", 0),))]),
            ("max(u + 2, v) < max(v + 1, 5)", [("u", 3, (("", 5), ("v", 1))), ("v", 1, (("", 5), ("v", 1)))]),
            ("max(u + 2, v) = 7", [("", 7, (("u", 2), ("v", 0))), ("u", 2, (("", 7),)), ("v", 0, (("", 7),))]),
            ("1 <= u", []), ("1 <= max(u, v)", [("", 1, (("u", 0), ("v", 0)))]), ("3 < 2", [("", 4, (("", 2),))]),
            ("max(u, 1) <= max(v, 1)", [("u", 0, (("v", 0),))]), ("imax(u, v) < u", [("u", 1, (("u", 0),)),
                                                                                  ("v", 1, (("u", 0),))]),
        ):
            book = free.with_demand(demand)
            self.assertEqual(bounds(book, ()), tuple(sorted([least_u, least_v, *rows])), demand)
            self.assertEqual(bounds(book.with_demand(demand), ()), bounds(book, ()), demand)
        book = free.with_demand("imax(u, v) < u")
        # There 0 < u says just what is said of u anyway: a lot has it once.
        self.assertEqual(bounds(book, ["v"]), (least_u,))
        self.assertEqual(bounds(book, ["u"]), (least_v, ("v", 1, (("", 0),))))
        self.assertEqual(bounds(zeros=["u", "v"], book=book), (("", 1, (("", 0),)),))

    def test_kinds(self):
        for lot in lots_of("uv"):
            for bound in bounds(WRONG, list(lot)):
                self.assertEqual([type(part) for part in bound], [str, int, tuple])
                self.assertTrue(all([type(pair) is tuple and type(pair[1]) is int for pair in bound[2]]))


class Papers(unittest.TestCase):

    def test_a_paper_or_numbers(self):
        papers = 0
        for book, rows in small_books(17, 500):
            told = paper(book)
            self.assertEqual(told is None, len(rows) > 0, str(book))
            if told is not None:
                papers += 1
                self.assertTrue(holds_by_hand(book, told), str(book))
                self.assertIs(paper_holds(book, told), True, str(book))
        self.assertTrue(100 < papers < 400)

    def test_edges(self):
        for book in SHUT:
            told = paper(book)
            self.assertTrue(holds_by_hand(book, told), str(book))
            self.assertIs(paper_holds(book, told), True)
            self.assertEqual([zeros for zeros, _ in told], lots_of(book.names))
        self.assertIsNone(paper(Book(["u"])))
        self.assertEqual([zeros for zeros, _ in paper(Book.read("names v b u\nu < u"))],
                         [(), ("b",), ("b", "u"), ("b", "u", "v"), ("b", "v"), ("u",), ("u", "v"), ("v",)])
        self.assertTrue(paper_holds(value=paper(book=WRONG), book=WRONG))

    def test_great_ones(self):
        for text in WIDE_BOOKS:
            book = Book.read(text)
            told = paper(book)
            self.assertEqual(told is None, can_be(book))
            self.assertEqual(holds_by_hand(book, told), told is not None)
            self.assertIs(paper_holds(book, told), told is not None)
        left = without(Book.read(WIDE_BOOKS[0]), ["w"])
        for demand in ("u < u", "max(u, v, x, y) <= 0", "max(v, x) + 99 <= u"):
            book = left.with_demand(demand)
            self.assertEqual(holds_by_hand(book, paper(book)), not can_be(book))

    def test_own_heights(self):
        # N is 1: a height may be anything that is at least its own with -1 * 1 + 1 more.
        book = Book.read("names u\n1 <= 0")
        for first, second, right in ((0, 0, True), (-5, 7, True), (10 ** 30, -10 ** 30, True)):
            value = (((), (("", 1, (("", 0),), first),)), (("u",), (("", 1, (("", 0),), second),)))
            self.assertIs(paper_holds(book, value), right)
        book = Book.read("names u v\nu + 3 <= v\nv <= u + 2")
        ring = [("u", 3, (("v", 0),)), ("v", 0, (("u", 2),))]
        self.assertEqual([bound in bounds(book, ()) for bound in ring], [True, True])
        told = paper(book)
        for high, right in ((4, False), (5, True), (6, False), (7, False)):
            # 2 * (0 - 3) + 1 + h(v) <= h(u) and 2 * (2 - 0) + 1 + h(u) <= h(v): h(v) is h(u) + 5.
            entries = ((*ring[0], 0), (*ring[1], high))
            value = (((), entries), *told[1:])
            self.assertIs(paper_holds(book, value), right, high)
            self.assertIs(paper_holds(book, (((), entries[::-1]), *told[1:])), right, high)

    def test_more_entries_make_steps_longer(self):
        book = Book.read("names u v\nu < u\nv <= v\nv <= u")
        told = paper(book)
        loop, other = ("u", 1, (("u", 0),)), ("v", 0, (("u", 0),))
        for entries, right in ((((*loop, 0),), True), (((*loop, 0), (*other, 1)), True), (((*loop, 0), (*other, 0)), False),
                               (((*other, 1),), False), (((*loop, 0), ("v", 0, (("v", 0),), 0)), False)):
            value = (((), entries), *told[1:])
            self.assertIs(paper_holds(book, value), right, entries)
            self.assertIs(holds_by_hand(book, value), right, entries)

    def test_a_ring_that_does_not_fall(self):
        book = Book.read("names u v\nu <= v\nv <= u")
        self.assertIsNone(paper(book))
        for heights in itertools.product(range(-3, 4), repeat=2):
            entries = (("u", 0, (("v", 0),), heights[0]), ("v", 0, (("u", 0),), heights[1]))
            self.assertIs(paper_holds(book, tuple([(lot, entries) for lot in lots_of("uv")])), False)


def nests(value):
    """The paths to all tuples in a value."""
    found = [()]
    for at, part in enumerate(value):
        if isinstance(part, tuple):
            found.extend([(at, *path) for path in nests(part)])
    return found


def at_path(value, path):
    for at in path:
        value = value[at]
    return value


def put_at(value, path, part):
    if not path:
        return part
    return (*value[:path[0]], put_at(value[path[0]], path[1:], part), *value[path[0] + 1:])


def changes(part, others, chance):
    """What a tuple in a paper may become: a part left out, put in, exchanged, repeated, changed; a list."""
    found = [list(part), part + (chance.choice(others),), (chance.choice(others), *part), part[::-1], part + part]
    for at, thing in enumerate(part):
        news = [chance.choice(others), (thing,), [thing], None]
        if type(thing) is int:
            news += [thing + 1, thing - 1, -thing, str(thing), True, False, bool(thing), 10 ** 20, -10 ** 20]
        if type(thing) is str:
            news += ["", "u", "v", "x", thing + "u", 0]
        found.extend([(*part[:at], new, *part[at + 1:]) for new in news])
        found.extend([part[:at] + part[at + 1:], part[:at + 1] + part[at:]])
    return found


class Holding(unittest.TestCase):

    def test_changed_at_each_place(self):
        chance = random.Random(171)
        counts = {True: 0, False: 0}
        for book in SHUT:
            told = paper(book)
            parts = [at_path(told, path) for path in nests(told)] + ["u", "v", "", 0, 1, True, None, [], ()]
            for path in nests(told):
                for new in changes(at_path(told, path), parts, chance):
                    value = put_at(told, path, new)
                    holds = paper_holds(book, value)
                    self.assertIs(holds, holds_by_hand(book, value), (str(book), value))
                    counts[holds] += 1
        self.assertTrue(counts[True] > 50 and counts[False] > 2000, counts)

    def test_exchanged(self):
        told = paper(WRONG)
        for one, other in itertools.combinations(range(len(told)), 2):
            value = list(told)
            value[one], value[other] = value[other], value[one]
            self.assertIs(paper_holds(WRONG, tuple(value)), False)
            value[one], value[other] = (told[one][0], told[other][1]), (told[other][0], told[one][1])
            self.assertIs(paper_holds(WRONG, tuple(value)), holds_by_hand(WRONG, tuple(value)))

    def test_left_out_and_put_in(self):
        for book in SHUT:
            told = paper(book)
            for at in range(len(told)):
                self.assertIs(paper_holds(book, told[:at] + told[at + 1:]), False)
                self.assertIs(paper_holds(book, told[:at + 1] + told[at:]), False)
                self.assertIs(paper_holds(book, (*told[:at], (told[at][0], ()), *told[at + 1:])), False)
            self.assertIs(paper_holds(book, told + ((("zz",), told[0][1]),)), False)

    def test_lists_in_the_place_of_tuples(self):
        for book in SHUT:
            told = paper(book)
            for path in nests(told):
                self.assertIs(paper_holds(book, put_at(told, path, list(at_path(told, path)))), False, path)

    def test_bools_in_the_place_of_integers(self):
        book = Book.read("names u\nu + 1 <= u\n0 <= 0")
        entry = ("u", 1, (("u", 0),), 1)
        zero = (("u",), (("", 1, (("", 0),), 0),))
        self.assertIs(paper_holds(book, (((), (entry,)), zero)), True)
        for wrong in (("u", True, (("u", 0),), 1), ("u", 1, (("u", False),), 1), ("u", 1, (("u", 0),), True)):
            self.assertIs(paper_holds(book, (((), (wrong,)), zero)), False)

    def test_any_value(self):
        for book in [*SHUT, Book(["u"]), Book(["u", "v"])]:
            lots = lots_of(book.names)
            for value in any_values() + ["", {}, {"u": 1}, b"", SHUT, paper, object()]:
                self.assertIs(paper_holds(book, value), False)
                self.assertIs(paper_holds(book, (value,) * len(lots)), False)
                self.assertIs(paper_holds(book, tuple([(lot, value) for lot in lots])), False)
                self.assertIs(paper_holds(book, tuple([(lot, (value,)) for lot in lots])), False)
                self.assertIs(paper_holds(book, tuple([(value, value) for _ in lots])), False)
                for entry in ((value,) * 4, ("u", value, (("u", 0),), 0), (value, 1, (("u", 0),), 0),
                              ("u", 1, value, 0), ("u", 1, (value,), 0), ("u", 1, (("u", value),), 0),
                              ("u", 1, ((value, 0),), 0), ("u", 1, (), value)):
                    self.assertIs(paper_holds(book, tuple([(lot, (entry,)) for lot in lots])), False)

    def test_papers_of_other_books(self):
        chance = random.Random(172)
        counts = {True: 0, False: 0}
        for _ in range(200):
            one = drawn_book(chance, "uv", True)
            told = paper(one)
            other = one.with_demand("u <= v + 3") if chance.random() < 0.3 else drawn_book(chance, "uv", True)
            if told is not None:
                holds = paper_holds(other, told)
                counts[holds] += 1
                self.assertIs(holds, holds_by_hand(other, told))
                self.assertFalse(holds and tried(other, 9))
        self.assertTrue(counts[True] > 10 and counts[False] > 30, counts)

    def test_a_book_that_numbers_keep_has_none(self):
        book = Book.read("names u v\nu + 1 <= max(u, v)")
        for value in (paper(WRONG), (), None, tuple([(lot, ()) for lot in lots_of("uv")])):
            self.assertIs(paper_holds(book, value), False)

    def test_long_values(self):
        told = paper(WRONG)
        self.assertIs(paper_holds(WRONG, told * 75), False)
        entries = told[0][1] * 150
        self.assertIs(paper_holds(WRONG, ((told[0][0], entries), *told[1:])), False)
        self.assertIs(paper_holds(WRONG, told), True)

    def test_values_stay_as_they_are(self):
        value = [list(case) for case in paper(WRONG)]
        before = repr(value)
        self.assertIs(paper_holds(WRONG, value), False)
        self.assertEqual(repr(value), before)


class Again(unittest.TestCase):

    def test_equal_results_whatever_was_called(self):
        first = [(paper(book), bounds(book, ["u"])) for book in SHUT]
        again = [(paper(Book.read(str(book))), bounds(book, ("u",))) for book in SHUT[::-1]]
        self.assertEqual(first, again[::-1])
        zeros = ["v"]
        bounds(WRONG, zeros)
        self.assertEqual(zeros, ["v"])


if __name__ == "__main__":
    unittest.main()
