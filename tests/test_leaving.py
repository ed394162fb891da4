"""[19] to [21]: names left out, and [1] to [4] as far as they speak of them."""

import itertools
import random
import unittest

from everylevel.books import Book
from everylevel.errors import NoName
from everylevel.following import follows, no_wider, unlike
from everylevel.leaving import between, joined, without
from everylevel.papers import paper, paper_holds
from everylevel.solutions import can_be, highest, lowest, some_numbers, span

from tests.tools import WIDE_BOOKS, any_values, drawn_book, drawn_bound, small_books, tried

BOOK = Book.read("names u v w\nu + 1 <= max(v, w)\nv <= w")
NOTHING = Book.read("names u v\nu < v\nv < u")


def shown(rows, names, wanted):
    """What rows of numbers for names say of some of the names."""
    places = [names.index(name) for name in wanted]
    return {tuple([row[place] for place in places]) for row in rows}


class Without(unittest.TestCase):

    def held(self, book, out, most=6):
        """Hold what is left against numbers that are completed by trying."""
        left = without(book, out)
        self.assertIs(type(left), Book)
        self.assertEqual(left.names, tuple([name for name in book.names if name not in out]))
        self.assertTrue(left.is_plain)
        # Small numbers are completed by small ones, as [10] says of the book with what the names are.
        reach = len(book.names) * max(book.reach // len(book.names), most + 1)
        wanted = shown(tried(book, reach), book.names, left.names)
        for row in itertools.product(range(most + 1), repeat=len(left.names)):
            self.assertEqual(left.keeps(row), row in wanted, (str(book), out, row))
        return left

    def test_against_trying(self):
        chance = random.Random(19)
        sizes = {}
        for book, _ in small_books(191, 200, ("uv", "vu", "uvw", "wvu"), True, most=2500):
            out = chance.sample(book.names, chance.randrange(1, len(book.names)))
            size = len(self.held(book, out, 5 if len(book.names) == 3 else 8))
            sizes[size] = sizes.get(size, 0) + 1
        self.assertTrue(all([sizes.get(size, 0) > 5 for size in (0, 1, 2)]), sizes)

    def test_four_names_against_trying(self):
        chance = random.Random(192)
        for many in (1, 2, 2, 3, 3, 1):
            book = drawn_book(chance, "uvwx", True, 3)
            while book.reach > 12:
                book = drawn_book(chance, "uvwx", True, 3)
            self.held(book, chance.sample("uvwx", many), 3)

    def test_rings_and_chains(self):
        for text, out, right in (
            ("names u v\nu <= v\nv <= u", "v", "names u"), ("names u v\nu < v\nv <= u", "v", "names u\nu < u"),
            ("names u v w\nu + 2 <= v\nv + 3 <= w", "v", "names u w\nu + 5 <= w"),
            ("names u v w\nu <= v\nv <= w\nw <= u", "v", "names u w\nu <= w\nw <= u"),
            ("names u v w\nu <= max(v, w)\nv + 1 <= max(v, w)", "v", "names u w\nu <= w\n1 <= w"),
            ("names u v w\nu + 2 <= max(v, w)\nv + 1 <= max(v, u)", "v", "names u w\nu + 2 <= w\n1 <= u"),
            ("names u v w\nu <= v\nv + 3 <= max(w, v + 2)", "v", "names u w\nu + 3 <= w"),
            ("names u v w\nu <= max(v + 1, w)\nv + 2 <= max(u, w)", "v", "names u w\nu <= w\n2 <= max(u, w)"),
            ("names u v\nv <= 5\n3 <= v", "v", "names u"), ("names u v\nv <= 5\n6 <= max(v, u)", "v", "names u\n6 <= u"),
            ("names u v\nv + 5 <= u", "v", "names u\n5 <= u"), ("names u v\nv + 5 <= max(u, 7)", "v", "names u"),
            ("names u v\nu = v + 3", "v", "names u\n3 <= u"), ("names u v\nu < v\nv < 4", "v", "names u\nu < 3"),
            ("names u v w\nmax(u, w) = v\nv <= 2", "v", "names u w\nmax(u, w) <= 2"),
            ("names u v\nv < 0", "v", "names u\n1 <= 0"), ("names u v\n1 <= 0", "v", "names u\n1 <= 0"),
        ):
            left = self.held(Book.read(text), [out])
            self.assertIsNone(unlike(left, Book.read(right)), text)

    def test_names_that_have_no_upper_bound(self):
        book = Book.read("names u v w\nu + 9 <= max(v, w)\n3 <= max(u, v)\nw <= v + 2\nu <= 4")
        left = self.held(book, ["v"])
        self.assertIsNone(unlike(left, Book(["u", "w"], ["u <= 4"])))
        self.assertIsNone(unlike(without(book, ["v", "w"]), Book(["u"], ["u <= 4"])))
        self.assertIsNone(unlike(without(Book(["u", "v"]), ["u"]), Book(["v"])))

    def test_no_names(self):
        for book in (BOOK, NOTHING, Book(["u"])):
            for names in ([], ()):
                left = without(book, names)
                self.assertEqual(left.names, book.names)
                self.assertIsNone(unlike(left, book))

    def test_other_order_and_twice(self):
        for book in (Book.read(WIDE_BOOKS[0]), Book.read(WIDE_BOOKS[2])):
            lefts = [without(book, out) for out in (["v", "x", "u"], ("u", "v", "x"), ["x", "v", "x", "u", "u", "v"])]
            for left in lefts:
                self.assertEqual(left.names, ("w", "y"))
                self.assertIsNone(unlike(left, lefts[0]))
            once = without(without(without(book, ["x"]), ["u"]), ["v"])
            self.assertIsNone(unlike(once, lefts[0]))

    def test_nothing_keeps_it(self):
        for out in ("u", "v"):
            left = without(NOTHING, [out])
            self.assertEqual(len(left.names), 1)
            self.assertFalse(can_be(left))

    def test_great_numbers(self):
        book = Book.read("names u v w\nu + 9999 <= v\nv + 9999 <= max(w, 9999 + 9999 + 9999)")
        left = without(book, ["v"])
        self.assertEqual([left.keeps(row) for row in ((0, 0), (9999, 0), (10000, 29997), (10000, 29998))],
                         [True, True, False, True])
        self.assertEqual(Book.read(str(left)), left)
        self.assertEqual(highest(left, [99999, 40000]), (20002, 40000))

    def test_at_the_limits(self):
        for text in WIDE_BOOKS[:3]:
            book = Book.read(text)
            for out in [["u"], ["w", "y"], ["v", "x", "u"], ["u", "v", "w", "x"]]:
                left = without(book, out)
                self.assertEqual(can_be(left), can_be(book))
                rows = [lowest(left), some_numbers(left), highest(left, [20] * len(left.names))]
                for row in [*rows[0], *[row for row in rows[1:] if row is not None]]:
                    fixed = [f"{name} = {number}" for name, number in zip(left.names, row)]
                    self.assertTrue(can_be(Book(book.names, [*book.demands, *fixed])))
                for name in left.names:
                    self.assertEqual(span(left, name), span(book, name))
                for demand in left.demands:
                    self.assertTrue(follows(book, demand))

    def test_results_go_on(self):
        chance = random.Random(193)
        for _ in range(30):
            book = Book(list("uvwxy"), [drawn_bound(chance, "uvwxy") for _ in range(8)])
            left = without(book, ["v"])
            told = paper(left)
            self.assertEqual(told is None, can_be(book))
            self.assertEqual(paper_holds(left, told), told is not None)
            self.assertTrue(no_wider(left, left.but(0)) if len(left) else True)
            self.assertIsNone(unlike(without(left, ["x"]), without(book, ["x", "v"])))

    def test_no_needless_demands_are_left(self):
        chance = random.Random(194)
        for _ in range(60):
            book = Book(list("uvwx"), [drawn_bound(chance, "uvwx") for _ in range(8)])
            left = without(book, chance.sample("uvwx", chance.choice((1, 1, 2))))
            if can_be(book):
                for at, demand in enumerate(left.demands):
                    self.assertFalse(follows(left.but(at), demand), (str(book), str(left)))

    def test_wrong_names(self):
        for book in (BOOK, NOTHING):
            for thing in any_values() + ["x", "uu", "max", ("u",), ["u"], b"u", {"u": 1}]:
                for names in ([thing], ["u", thing], (thing, "u", None), [thing, "x", "v"], ["v", "u", thing]):
                    with self.assertRaises(NoName, msg=repr(names)[:60]) as caught:
                        without(book, names)
                    self.assertIs(caught.exception.name, thing)

    def test_arguments(self):
        names = ["v", "u"]
        self.assertEqual(without(names=names, book=BOOK), without(BOOK, names))
        self.assertEqual(names, ["v", "u"])
        self.assertEqual(str(BOOK), "names u v w\nu + 1 <= max(v, w)\nv <= w")


class Joined(unittest.TestCase):

    def test_names_and_demands(self):
        one, other = Book.read("names w u\nw < u\nu <= 3"), Book.read("names v u x\nimax(u, v) <= x\nx = x")
        both = joined(one, other)
        self.assertEqual(str(both), "names w u v x\nw < u\nu <= 3\nimax(u, v) <= x\nx = x")
        self.assertEqual(joined(other, one).names, ("v", "u", "x", "w"))
        self.assertEqual(joined(other=other, one=one), both)
        self.assertIs(type(both), Book)

    def test_edges(self):
        self.assertEqual(joined(Book(["u"]), Book(["v"])), Book(["u", "v"]))
        self.assertEqual(joined(BOOK, BOOK), Book(BOOK.names, BOOK.demands * 2))
        one, other = Book(["u", "v"], ["u <= v"]), Book(["v", "u"], ["u <= v"])
        self.assertEqual(joined(one, other), Book(["u", "v"], ["u <= v", "u <= v"]))
        self.assertEqual(joined(other, one).names, ("v", "u"))

    def test_kept_by_what_keeps_both(self):
        chance = random.Random(21)
        for _ in range(60):
            one, other = drawn_book(chance, "uv"), drawn_book(chance, chance.choice(("vu", "wv", "uv")))
            both = joined(one, other)
            for row in itertools.product(range(4), repeat=len(both.names)):
                numbers = dict(zip(both.names, row))
                parts = [book.keeps([numbers[name] for name in book.names]) for book in (one, other)]
                self.assertEqual(both.keeps(row), all(parts))


class Between(unittest.TestCase):

    def held(self, one, other, most):
        middle = between(one, other)
        if middle is None:
            self.assertTrue(can_be(joined(one, other)), (str(one), str(other)))
            return None
        self.assertIs(type(middle), Book)
        self.assertEqual(middle.names, tuple(sorted(set(one.names) & set(other.names))))
        self.assertTrue(middle.is_plain)
        for row in shown(tried(one, most), one.names, middle.names):
            self.assertTrue(middle.keeps(row), (str(one), str(other), row))
        for row in shown(tried(other, most), other.names, middle.names):
            self.assertFalse(middle.keeps(row), (str(one), str(other), row))
        self.assertFalse(can_be(joined(middle, other)))
        return middle

    def test_against_trying(self):
        chance = random.Random(211)
        counts = {}
        groups = (("uv", "vw"), ("uv", "uv"), ("uv", "vu"), ("wvu", "vux"), ("xu", "uy"), ("uz", "yxu"), ("u", "u"))
        for _ in range(400):
            one, other = [drawn_book(chance, names, True) for names in chance.choice(groups)]
            wide = can_be(joined(one, other))
            middle = self.held(one, other, min(max(one.reach, other.reach), 11))
            self.assertEqual(middle is None, wide)
            kind = "both" if wide else f"{can_be(one)} {can_be(other)}"
            counts[kind] = counts.get(kind, 0) + 1
        self.assertTrue(len(counts) == 5 and min(counts.values()) > 8, counts)

    def test_edges(self):
        self.assertIsNone(between(BOOK, BOOK))
        self.assertIsNone(between(Book(["u"]), Book(["u"])))
        shut = Book(["u"], ["u < u"])
        self.assertFalse(can_be(self.held(shut, Book(["u"]), 5)))
        self.assertTrue(can_be(self.held(Book(["u"]), shut, 5)))
        self.held(shut, shut, 5)
        one, other = Book.read("names v u\nu + 2 <= v"), Book.read("names u v\nv <= u + 1")
        middle = self.held(one, other, 9)
        self.assertEqual(middle.names, ("u", "v"))
        self.assertEqual([middle.keeps(row) for row in ((0, 2), (0, 1))], [True, False])
        self.assertEqual(between(other=other, one=one), middle)

    def test_at_the_limits(self):
        one = Book.read(WIDE_BOOKS[0])
        other = Book(["y", "u"], ["u + 8 <= y", "y <= u + 9"])
        self.assertEqual(self.held(one, other, 4) is None, can_be(joined(one, other)))
        low, high = Book(["u", "v"], ["u + 39 <= v", "v <= 39"]), Book(["v", "w", "x", "y"], ["v < w", "w < 5", "x <= y"])
        middle = self.held(low, high, 12)
        self.assertEqual([middle.keeps([number]) for number in (3, 39)], [False, True])

    def test_arguments_stay_as_they_are(self):
        one, other = Book.read("names u x\nu + 2 <= x\nx <= 4"), Book.read("names u y\n3 <= max(u, y)\ny < 2")
        first = between(one, other)
        without(one, ["u"])
        between(other, one)
        self.assertEqual(between(one, other), first)
        self.assertEqual((str(one), str(other)), ("names u x\nu + 2 <= x\nx <= 4", "names u y\n3 <= max(u, y)\ny < 2"))


if __name__ == "__main__":
    unittest.main()
