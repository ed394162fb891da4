"""[13] to [15]: what follows, how books compare, denials, and [1] to [4] as far as they speak of them."""

import itertools
import random
import unittest

from everylevel.books import Book
from everylevel.errors import InvalidDemand, InvalidLevel
from everylevel.following import counter, denials, excess, follows, no_wider, unlike
from everylevel.solutions import can_be

from tests.tools import RIGHT_DEMANDS, WIDE_BOOKS, WRONG_LEVELS, any_values, drawn_book, drawn_demand, drawn_level
from tests.tools import reckoned, small_books, tried, wrong_demands

BOOK = Book.read("names u v w\nu + 1 <= max(v, w)\nv <= w")
NOTHING = Book.read("names u v\nu < v\nv < u")
FREE = Book(["u", "v"])
OTHER_NAMES = ["x", "uu", "max(u, x)", "imax(x, u)", "x + 1", "imax(0, max(v, ww))"]


def asked(seed, many, groups=("u", "uv", "vu", "uvw")):
    """Books, demands about them, and all their numbers up to where the demands are decided."""
    chance = random.Random(seed)
    for book, _ in small_books(seed, many, groups, most=1500):
        demand = drawn_demand(chance, book.names, chance.random() < 0.5)
        # The denial of a demand has a number that is at most 1 greater.
        yield book, demand, tried(book, book.with_demand(demand).reach + len(book.names))


class Follows(unittest.TestCase):

    def test_against_trying(self):
        counts = {True: 0, False: 0}
        for book, demand, rows in asked(13, 400):
            true = reckoned(book.names, demand)
            follow = all([true(*row) for row in rows])
            counts[follow] += 1
            self.assertIs(follows(book, demand), follow, (str(book), demand))
            numbers = counter(book, demand)
            self.assertEqual(numbers is None, follow, (str(book), demand))
            if numbers is not None:
                self.assertIs(type(numbers), tuple)
                self.assertTrue(book.keeps(numbers) and not true(*numbers), (str(book), demand))
        self.assertTrue(min(counts.values()) > 100, counts)

    def test_edges(self):
        self.assertTrue(follows(NOTHING, "u = v"))
        self.assertTrue(follows(NOTHING, "1 <= 0"))
        self.assertIsNone(counter(NOTHING, "1 <= 0"))
        for demand in ("u <= u", "0 <= v", "imax(u, v) <= max(u, v)", "u < u + 1", "imax(u, u) = u"):
            self.assertIs(follows(FREE, demand), True, demand)
            self.assertIsNone(counter(FREE, demand))
        for demand in ("u <= v", "u < u", "0 < v", "max(u, v) <= imax(u, v)", "u = v", "1 <= 0"):
            self.assertIs(follows(FREE, demand), False, demand)
            self.assertEqual(len(counter(FREE, demand)), 2)

    def test_an_equality_is_denied_on_both_sides(self):
        book = Book.read("names u v\nu <= v\nu <= 3\nv <= 4\n3 <= u")
        self.assertEqual(counter(book, "u = v"), (3, 4))
        self.assertEqual(counter(book, "v = u"), (3, 4))
        self.assertTrue(follows(book, "u = 3"))

    def test_great_numbers(self):
        book = Book.read("names u v\nu + 99 <= v\nv <= 9999")
        self.assertTrue(follows(book, "u <= 9900"))
        self.assertEqual(counter(book, "u <= 9899"), (9900, 9999))
        self.assertTrue(follows(FREE, "u + 9999 + 1 <= max(v, u + 9999 + 9999)"))

    def test_by_names(self):
        self.assertIs(follows(demand="u < w", book=BOOK), True)
        self.assertIsNone(counter(demand="u < w", book=BOOK))

    def test_wrong_demands(self):
        others = [f"{level} <= u" for level in OTHER_NAMES] + [f"v = {level}" for level in OTHER_NAMES]
        for demand in wrong_demands() + any_values() + others + [b"u <= v", {"u <= v"}]:
            for call in (follows, counter):
                for book in (FREE, NOTHING):
                    if demand != "u <= v":
                        with self.assertRaises(InvalidDemand, msg=repr(demand)[:60]):
                            call(book, demand)
        for demand in RIGHT_DEMANDS:
            self.assertIn(follows(Book(["u", "v", "imag", "maxi"]), demand), (True, False))


class Excess(unittest.TestCase):

    def reach_with(self, book, level, other):
        """A reach for the book and the numbers of two levels."""
        return book.with_demand(f"{level} <= {other}").reach

    def test_against_trying(self):
        counts = {}
        chance = random.Random(131)
        for book, _ in small_books(132, 400, ("u", "uv", "vu", "uvw"), most=500):
            level, other = (drawn_level(chance, book.names, chance.random() < 0.5) for _ in "ab")
            reach = self.reach_with(book, level, other)
            high, low = reckoned(book.names, level), reckoned(book.names, other)
            rises = [high(*row) - low(*row) for row in tried(book, reach)]
            # A greatest one is found up to the reach. If there is none, some gap can be made wider, while
            # the others are small: so much further away it is more than anything up to the reach.
            most = 2 * reach + reach // len(book.names)
            further = [high(*row) - low(*row) for row in tried(book, most)] if rises else []
            wanted = max(rises) if rises and max(rises) == max(further) else None
            kind = "empty" if not rises else "none" if wanted is None else "below" if wanted < 0 else "above"
            counts[kind] = counts.get(kind, 0) + 1
            self.assertEqual(excess(book, level, other), wanted, (str(book), level, other))
        self.assertTrue(all([counts.get(kind, 0) > 15 for kind in ("empty", "none", "below", "above")]), counts)

    def test_edges(self):
        self.assertIsNone(excess(NOTHING, "u", "u"))
        self.assertIsNone(excess(NOTHING, "3", "2"))
        self.assertIsNone(excess(FREE, "u", "v"))
        self.assertIsNone(excess(FREE, "imax(u, v)", "v"))
        self.assertIsNone(excess(FREE, "u", "99"))
        for level, other, most in (
            ("u", "u", 0), ("3", "5", -2), ("5", "u", 5), ("u", "u + 7", -7), ("max(u, 5)", "u", 5), ("0", "u + 2", -2),
            ("imax(u, v)", "u", None), ("imax(u, v)", "max(u, v)", 0), ("imax(u, u)", "u", 0), ("v", "imax(u, v)", 0),
            ("max(u, v)", "imax(u, v)", None), ("imax(7, v)", "max(3, v)", 4), ("9999 + 9999", "u", 19998),
        ):
            self.assertEqual(excess(FREE, level, other), most, (level, other))
        book = Book.read("names u v\nu <= v + 99\n2 <= u\nv <= 900")
        self.assertEqual([excess(book, "u", "v"), excess(book, "v", "u"), excess(book, "u + 99", "v")], [99, 898, 198])
        self.assertIs(type(excess(book, "u", "v")), int)

    def test_a_long_way(self):
        chain = ["u <= max(v + 90, 1)", "v <= max(w + 91, 2)", "w <= max(x + 92, 3)", "x <= max(y + 93, 4)"]
        book = Book(list("uvwxy"), chain)
        self.assertEqual(excess(book, "u + 99", "y"), 90 + 91 + 92 + 93 + 99)
        self.assertEqual(excess(book, "u + 99", "max(y + 50, x)"), 90 + 91 + 92 + 99)
        self.assertEqual(excess(book.with_demand("99 <= u"), "v", "u"), None)
        self.assertEqual(excess(book.with_demand("y <= 99"), "u", "0"), 90 + 91 + 92 + 93 + 99)
        self.assertEqual(excess(book.but(1), "u", "y"), None)

    def test_a_case_decides(self):
        book = Book.read("names u v\nimax(u, v) <= 4\nu <= 50")
        self.assertEqual(excess(book, "u", "0"), 50)
        self.assertEqual(excess(book, "u", "imax(60, v)"), 50)
        self.assertEqual(excess(book.with_demand("1 <= v"), "u", "0"), 4)
        self.assertEqual(excess(book.with_demand("1 <= v"), "u", "imax(60, v)"), -56)

    def test_at_the_limits(self):
        deep = "max(imax(u + 99, v + 98), max(imax(v + 97, u), w + 96), imax(max(u, 95), imax(v, w + 1)))"
        for text in WIDE_BOOKS:
            book = Book.read(text)
            most = excess(book, deep, "max(u, v)")
            if can_be(book) and most is not None:
                self.assertTrue(follows(book, f"{deep} <= max(u, v) + {most}"))
                self.assertFalse(follows(book, f"{deep} < max(u, v) + {most}"))
            elif can_be(book):
                self.assertFalse(follows(book, f"{deep} <= max(u, v) + 999"))
            else:
                self.assertIsNone(most)

    def test_by_names(self):
        self.assertEqual(excess(other="w", level="u", book=BOOK), -1)
        self.assertEqual(excess(book=BOOK, other="u", level="w"), None)

    def test_wrong_levels(self):
        for level in WRONG_LEVELS + any_values() + OTHER_NAMES + [b"u", {"u"}, "u <= v"]:
            for book in (FREE, NOTHING):
                for first, second in ((level, "u"), ("u", level), (level, level)):
                    with self.assertRaises(InvalidLevel, msg=repr(level)[:60]):
                        excess(book, first, second)


class Comparing(unittest.TestCase):

    def test_against_trying(self):
        counts = {}
        chance = random.Random(14)
        for one, _ in small_books(141, 300, most=700):
            other = drawn_book(chance, one.names, one.is_plain)
            if chance.random() < 0.4 and len(one) > 0:
                other = one.but(chance.randrange(len(one)))
            elif chance.random() < 0.3:
                other = one.with_demand(drawn_demand(chance, one.names, one.is_plain))
            # A denial of a demand of one book stands with all demands of the other one.
            reach = max(one.reach, other.reach) + len(one.names)
            if (reach + 1) ** len(one.names) > 5000:
                continue
            first, second = tried(one, reach), tried(other, reach)
            only, else_only = set(first) - set(second), set(second) - set(first)
            self.assertIs(no_wider(one, other), not only, (str(one), str(other)))
            self.assertIs(no_wider(other, one), not else_only, (str(one), str(other)))
            numbers = unlike(one, other)
            self.assertEqual(numbers is None, not only and not else_only, (str(one), str(other)))
            if numbers is not None:
                self.assertIs(type(numbers), tuple)
                self.assertNotEqual(one.keeps(numbers), other.keeps(numbers))
            kind = (not only, not else_only)
            counts[kind] = counts.get(kind, 0) + 1
        self.assertTrue(len(counts) == 4 and min(counts.values()) > 10, counts)

    def test_edges(self):
        wrong = Book(["u", "v"], ["1 <= 0"])
        self.assertIs(no_wider(NOTHING, wrong), True)
        self.assertIsNone(unlike(NOTHING, wrong))
        self.assertIs(no_wider(wrong, FREE), True)
        self.assertIs(no_wider(FREE, wrong), False)
        self.assertEqual(len(unlike(FREE, wrong)), 2)
        self.assertEqual(len(unlike(wrong, FREE)), 2)
        self.assertIs(no_wider(FREE, FREE), True)
        self.assertIs(no_wider(one=Book(["u"], ["u < 3"]), other=Book(["u"], ["u <= 2"])), True)
        self.assertIsNone(unlike(one=Book(["u"], ["u < 3"]), other=Book(["u"], ["u <= 2"])))
        self.assertEqual(unlike(Book(["u"], ["u <= 3"]), Book(["u"], ["u <= 2"])), (3,))
        self.assertEqual(unlike(Book(["u"], ["u <= 2"]), Book(["u"], ["u <= 3"])), (3,))
        self.assertIsNone(unlike(Book(["u", "v"], ["imax(u, v) = 0"]), Book(["u", "v"], ["v = 0"])))

    def test_at_the_limits(self):
        books = [Book.read(text) for text in WIDE_BOOKS]
        for one, other in itertools.product(books[:3], repeat=2):
            numbers = unlike(one, other)
            self.assertEqual(numbers is None, no_wider(one, other) and no_wider(other, one))
            self.assertTrue(numbers is None or one.keeps(numbers) != other.keeps(numbers))
        self.assertTrue(no_wider(books[3], books[3].but(4)))
        self.assertTrue(no_wider(books[4], books[3]))


class Denials(unittest.TestCase):

    def test_texts(self):
        for demand, texts in (
            ("u <= v", ("v < u",)), ("u < v", ("v <= u",)), ("u = v", ("u < v", "v < u")),
            ("max(u, 2) + 1 <= imax(v, u)", ("imax(v, u) < max(u, 2) + 1",)), ("0 < 0", ("0 <= 0",)),
            ("u + 1 = max(u, v)", ("u + 1 < max(u, v)", "max(u, v) < u + 1")), ("0 = 0", ("0 < 0", "0 < 0")),
        ):
            self.assertEqual(denials(demand), texts)
            self.assertEqual(denials(demand=demand), texts)
            self.assertIs(type(denials(demand)), tuple)

    def test_true_exactly_if_the_demand_is_not(self):
        chance = random.Random(15)
        for _ in range(150):
            demand = drawn_demand(chance, "uv", chance.random() < 0.5)
            true = reckoned("uv", demand)
            others = [reckoned("uv", denial) for denial in denials(demand)]
            for row in itertools.product(range(6), repeat=2):
                self.assertEqual([other(*row) for other in others].count(True), 0 if true(*row) else 1, demand)

    def test_follows_exactly_if_nothing_keeps_the_denials(self):
        for book, demand, _ in asked(151, 100):
            kept = [can_be(book.with_demand(denial)) for denial in denials(demand)]
            self.assertEqual(follows(book, demand), not any(kept))

    def test_wrong_demands(self):
        for demand in wrong_demands() + any_values() + [b"u <= v", {"u <= v"}]:
            if demand != "u <= v":
                with self.assertRaises(InvalidDemand, msg=repr(demand)[:60]):
                    denials(demand)
        self.assertEqual(denials("zz <= yy"), ("yy < zz",))


class Again(unittest.TestCase):

    def test_equal_results_whatever_was_called(self):
        books = [BOOK, *[Book.read(text) for text in WIDE_BOOKS]]
        calls = [(follows, ("u < w",)), (counter, ("w <= u",)), (excess, ("imax(u, v)", "w")), (unlike, (BOOK,))]
        pairs = [(book, call, more) for book in books for call, more in calls
                 if call is not unlike or book.names == BOOK.names]
        first = [call(book, *more) for book, call, more in pairs]
        again = [call(Book.read(str(book)), *more) for book, call, more in reversed(pairs)]
        self.assertEqual(first, list(reversed(again)))


if __name__ == "__main__":
    unittest.main()
