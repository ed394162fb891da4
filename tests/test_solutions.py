"""[11] and [12]: solutions, and [1] to [4] as far as they speak of them."""

import itertools
import random
import unittest

from everylevel.books import Book
from everylevel.errors import InvalidNumbers, NoName
from everylevel.following import follows
from everylevel.leaving import without
from everylevel.solutions import can_be, highest, lowest, some_numbers, span

from tests.tools import WIDE_BOOKS, any_values, drawn_bound, reckoned, small_books, tried

BOOK = Book.read("names u v w\nu + 1 <= max(v, w)\nv <= w")
NOTHING = [Book.read(text) for text in (
    "names u\nu < u", "names u v\nu < v\nv < u", "names u v\n1 <= 0", "names u\nu + 1 = u",
    "names u v\n1 <= imax(u, v)\nv = 0", "names u v\nu + 1 <= max(u, v)\nv < u", "names u v\nmax(u, v) < v",
)]


def is_beneath(row, other):
    return all([number <= top for number, top in zip(row, other)])


def least_of(rows):
    return tuple([row for row in rows if not any([other != row and is_beneath(other, row) for other in rows])])


class SomeNumbers(unittest.TestCase):

    def test_against_trying(self):
        kept = 0
        for book, rows in small_books(11, 500):
            numbers = some_numbers(book)
            self.assertIs(can_be(book), len(rows) > 0, str(book))
            self.assertEqual(numbers is None, len(rows) == 0, str(book))
            if numbers is not None:
                kept += 1
                self.assertIs(type(numbers), tuple)
                self.assertIs(book.keeps(numbers), True, str(book))
        self.assertTrue(100 < kept < 400)

    def test_without_demands(self):
        for names in (["u"], ["v", "u"], list("abcde")):
            book = Book(names)
            self.assertIs(can_be(book), True)
            self.assertTrue(book.keeps(some_numbers(book)))
            self.assertEqual(len(some_numbers(book)), len(names))

    def test_nothing_keeps_it(self):
        for book in NOTHING:
            self.assertIs(can_be(book), False, str(book))
            self.assertIsNone(some_numbers(book), str(book))

    def test_a_zero_is_no_small_number(self):
        # The imax is decided by whether v is 0: both ways of it, and both ways shut.
        for text, rows in (("imax(u + 5, v) <= 2", [(0, 0), (7, 0)]), ("imax(u + 2, v) = u + 3", [(0, 3), (4, 7)]),
                           ("imax(5, v) <= 4", [(3, 0)]), ("4 <= imax(4, v)", [(0, 1)])):
            book = Book(["u", "v"], [text])
            for row in rows:
                self.assertTrue(book.keeps(row), text)
                self.assertTrue(is_beneath(some_numbers(book), (9, 9)), text)
                self.assertTrue(book.keeps(some_numbers(book)), text)
        self.assertFalse(can_be(Book(["u", "v"], ["imax(5, v) <= 4", "1 <= v"])))
        self.assertFalse(can_be(Book(["u", "v"], ["4 <= imax(4, v)", "v < 1"])))

    def test_by_name(self):
        self.assertEqual(some_numbers(book=BOOK), some_numbers(BOOK))
        self.assertIs(can_be(book=BOOK), True)

    def test_at_the_limits_and_beyond(self):
        for text, possible in zip(WIDE_BOOKS, (True, False, True, True, False)):
            book = Book.read(text)
            self.assertIs(can_be(book), possible, text)
            self.assertTrue(not possible or book.keeps(some_numbers(book)))
        names = [f"{a}{b}" for a in "abc" for b in "uvwxyz"]
        chain = [f"{low} + 99 < {high}" for low, high in zip(names, names[1:])]
        book = Book(names, chain)
        self.assertTrue(book.keeps(some_numbers(book)))
        self.assertFalse(can_be(book.with_demand(f"{names[-1]} <= 1600")))


class Highest(unittest.TestCase):

    def wrong(self, at, tops, book=BOOK):
        with self.assertRaises(InvalidNumbers, msg=repr(tops)[:60]) as caught:
            highest(book, tops)
        self.assertEqual(caught.exception.at, at)

    def test_against_trying(self):
        chance = random.Random(111)
        found, shut = 0, 0
        for book, _ in small_books(112, 400, plain=True, most=2000):
            tops = [chance.randrange(9) for _ in book.names]
            rows = [row for row in tried(book, max(tops)) if is_beneath(row, tops)]
            if rows:
                found += 1
                self.assertEqual(highest(book, tops), tuple([max(column) for column in zip(*rows)]), str(book))
            else:
                shut += 1
                self.assertIsNone(highest(book, tuple(tops)), str(book))
        self.assertTrue(found > 100 and shut > 50)

    def test_tops_that_nothing_beneath_keeps(self):
        self.assertIsNone(highest(BOOK, [5, 9, 0]))
        self.assertEqual(highest(BOOK, [5, 9, 1]), (0, 1, 1))
        book = Book(["u"], ["7 <= u"])
        self.assertEqual([highest(book, [6]), highest(book, [7]), highest(book, [999])], [None, (7,), (999,)])
        for book in NOTHING:
            if book.is_plain:
                self.assertIsNone(highest(book, [999] * len(book.names)))

    def test_without_demands(self):
        self.assertEqual(highest(Book(["u", "v"]), [3, 0]), (3, 0))
        self.assertIs(type(highest(Book(["u"]), [3])), tuple)

    def test_a_long_way_down(self):
        book = Book.read("names u v\nu + 1 <= max(v, 3)\nv <= u")
        self.assertEqual(highest(book, [999, 999]), (2, 2))
        book = Book.read("names u v\nu + 1 <= max(v, 3)\nv <= u\n3 <= u")
        self.assertIsNone(highest(book, [10 ** 9, 10 ** 9]))
        book = Book.read("names u v w\nu + 1 <= v\nv + 1 <= w")
        self.assertEqual(highest(book, (999, 999, 999)), (997, 998, 999))

    def test_wrong_tops(self):
        for tops in any_values() + ["555", {0: 1, 1: 2, 2: 3}, {1, 2, 3}, b"abc", range(3), iter([1, 2, 3])]:
            self.wrong(0, tops)
        for tops in ([], [1], (1, 2), [1, 2, 3, 4], [True] * 2, "123"):
            self.wrong(0, tops)
        for thing in (-1, True, False, None, "1", "", [1], (), BOOK, 1.0):
            self.wrong(0, [thing, 9, 9])
            self.wrong(1, (9, thing, 9))
            self.wrong(2, [9, 9, thing])
            self.wrong(1, [9, thing, None])

    def test_wrong_tops_come_first(self):
        self.wrong(0, None, NOTHING[0])
        self.wrong(0, [True], NOTHING[0])
        self.wrong(1, [9, -1], NOTHING[1])

    def test_tops_stay_as_they_are(self):
        tops = [5, 9, 3]
        self.assertEqual([highest(BOOK, tops), highest(tops=tops, book=BOOK)], [(2, 3, 3), (2, 3, 3)])
        self.assertEqual(tops, [5, 9, 3])


class Lowest(unittest.TestCase):

    def test_against_trying(self):
        sizes = {}
        for book, rows in small_books(121, 500, most=2500):
            found = lowest(book)
            if len(rows) <= 300:
                self.assertEqual(found, least_of(rows), str(book))
            self.assertIs(type(found), tuple)
            self.assertTrue(all([row in rows and type(row) is tuple for row in found]), str(book))
            self.assertTrue(all([any([is_beneath(low, row) for low in found]) for row in rows]), str(book))
            self.assertEqual(found, least_of(found), str(book))
            sizes[len(found)] = True
        self.assertTrue(all([size in sizes for size in (0, 1, 2)]), sizes)

    def test_many_least_ones(self):
        demands = ["7 <= max(u, v, w, x)", "6 <= max(u, v + 2, w + 4)", "5 <= max(v, w + 1, x + 3)",
                   "4 <= max(u + 3, w, x + 1)", "6 <= max(u + 1, x)", "3 <= max(v, w)", "2 <= max(u, v, x)"]
        book = Book(list("uvwx"), demands)
        keeps = reckoned("uvwx", " and ".join([f"({demand})" for demand in demands]))
        # One more nowhere breaks a demand here: so a row is least if none with one less at a place keeps all.
        rows = [row for row in itertools.product(range(8), repeat=4) if keeps(*row)]
        least = [row for row in rows if not any([
            number > 0 and keeps(*row[:at], number - 1, *row[at + 1:]) for at, number in enumerate(row)])]
        self.assertEqual(lowest(book), tuple(least))
        self.assertGreater(len(least), 5)

    def test_edges(self):
        self.assertEqual(lowest(Book(["u", "v"])), ((0, 0),))
        for book in NOTHING:
            self.assertEqual(lowest(book), ())
        self.assertEqual(lowest(Book.read("names v u\n3 <= max(u, v)")), ((0, 3), (3, 0)))
        self.assertEqual(lowest(Book.read("names u v\n3 <= imax(u, v)")), ((0, 3), (3, 1)))
        self.assertEqual(lowest(Book.read("names u v\n3 <= imax(u, v)\nu = v")), ((3, 3),))
        self.assertEqual(lowest(Book.read("names u v w\nu < max(v, w)\nv < max(u, w)")), ((0, 0, 1),))
        self.assertEqual(lowest(book=Book.read("names u\n12 < u")), ((13,),))

    def test_a_way_that_leads_nowhere(self):
        # Raising u and v in turn never helps, however far it goes.
        book = Book.read("names u v w\nu + 3 <= max(v, w)\nv + 3 <= max(u, w)")
        self.assertEqual(lowest(book), ((0, 0, 3),))

    def test_of_books_that_were_told(self):
        chance = random.Random(122)
        for _ in range(60):
            book = Book(list("uvwxy"), [drawn_bound(chance, "uvwxy") for _ in range(8)])
            left = without(book, ["w"])
            rows = lowest(left)
            self.assertEqual(len(rows) > 0, can_be(book))
            self.assertTrue(all([left.keeps(row) for row in rows]))
            self.assertEqual(rows, least_of(rows))
            if rows:
                self.assertEqual(span(left, "u")[0], min([row[0] for row in rows]), str(left))


class Span(unittest.TestCase):

    def test_against_trying(self):
        bounded, unbounded = 0, 0
        for book, rows in small_books(123, 250, most=1500):
            # A name that has a bound is at most at the reach. One that has none is above any gap
            # that can be made wider, while the other gaps are small: then twice the reach shows it.
            further = tried(book, 2 * book.reach) if rows else []
            for at, name in enumerate(book.names):
                if not rows:
                    self.assertIsNone(span(book, name), str(book))
                    continue
                low, high = span(book, name)
                self.assertEqual(low, min([row[at] for row in rows]), str(book))
                most = max([row[at] for row in rows])
                bounded, unbounded = bounded + (high is not None), unbounded + (high is None)
                self.assertEqual(high, None if max([row[at] for row in further]) > most else most, str(book))
        self.assertTrue(bounded > 30 and unbounded > 100)

    def test_edges(self):
        self.assertEqual(span(Book(["u"]), "u"), (0, None))
        self.assertEqual(span(BOOK, "u"), (0, None))
        self.assertEqual(span(book=BOOK, name="w"), (1, None))
        for book in NOTHING:
            self.assertIsNone(span(book, "u"))
        book = Book.read("names u v w\nimax(u, v) <= 3\n2 <= u\nw = imax(u, v)")
        self.assertEqual([span(book, name) for name in "uvw"], [(2, None), (0, 3), (0, 3)])
        self.assertEqual(span(book.with_demand("1 <= w"), "w"), (2, 3))
        self.assertEqual(span(Book.read("names u v\nu + 999 < v\nv <= 5000"), "v"), (1000, 5000))
        self.assertEqual(span(Book.read("names u v\nu = 9999 + 9999\nv <= u"), "v"), (0, 19998))

    def test_kind(self):
        self.assertIs(type(span(BOOK, "u")), tuple)
        self.assertEqual([type(end) for end in span(Book(["u"], ["u <= 1"]), "u")], [int, int])

    def test_wrong_names(self):
        for book in (BOOK, NOTHING[0]):
            for name in any_values() + ["x", "uv", "max", "U", ("u",), ["u"], b"u", {"u": 1}]:
                with self.assertRaises(NoName, msg=repr(name)[:60]) as caught:
                    span(book, name)
                self.assertIs(caught.exception.name, name)


class Again(unittest.TestCase):

    def test_equal_results_whatever_was_called(self):
        books = [Book.read(text) for text in WIDE_BOOKS[:3]] + [BOOK, *NOTHING]
        calls = [(some_numbers, ()), (can_be, ()), (lowest, ()), (span, ("u",))]
        first = [call(book, *more) for book in books for call, more in calls]
        texts = [str(book) for book in books]
        for book in reversed(books):
            follows(book, "u <= 3")
            span(book, book.names[-1])
        again = [call(Book.read(str(book)), *more) for book in books for call, more in calls]
        self.assertEqual(first, again)
        self.assertEqual([str(book) for book in books], texts)


if __name__ == "__main__":
    unittest.main()
