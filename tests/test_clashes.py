"""[22]: demands that clash, and [1] to [4] as far as they speak of them."""

import itertools
import random
import unittest

from everylevel.books import Book
from everylevel.clashes import least_clashes, needless, struck
from everylevel.following import follows
from everylevel.leaving import joined, without
from everylevel.solutions import can_be

from tests.tools import WIDE_BOOKS, drawn_book, drawn_bound, drawn_demand, reckoned, tried

THREE = Book.read("names u v\nu < v\nv < u\nv <= u\nu <= 9")


def lots_of(many):
    """All lots of numbers of so many demands, lesser ones first."""
    return [lot for size in range(many + 1) for lot in itertools.combinations(range(many), size)]


def kept_lots(book):
    """The lots of demands that some numbers up to the reach keep, found by trying."""
    tests = [reckoned(book.names, demand) for demand in book.demands]
    rows = itertools.product(range(book.reach + 1), repeat=len(book.names))
    most = {tuple([at for at, true in enumerate(tests) if true(*row)]) for row in rows}
    return {lot for lot in lots_of(len(book)) if any([set(lot) <= set(other) for other in most])}


def clashes_by_hand(book, kept):
    """The least lots that are not kept."""
    found = []
    for lot in lots_of(len(book)):
        lesser = [other for size in range(len(lot)) for other in itertools.combinations(lot, size)]
        if lot not in kept and all([other in kept for other in lesser]):
            found.append(lot)
    return tuple(sorted(found))


def needless_by_hand(book):
    """The demands that are true for all numbers that keep the others."""
    found = []
    for at, demand in enumerate(book.demands):
        true = reckoned(book.names, demand)
        if all([true(*row) for row in tried(book.but(at), book.reach + len(book.names))]):
            found.append(at)
    return tuple(found)


def drawn(chance, most=700):
    """A book of up to six demands, with few enough numbers up to its reach to try them all."""
    while True:
        names = chance.choice(("u", "uv", "vu", "uvw"))
        many = chance.choice((0, 1, 2, 3, 4, 5, 5, 6, 6, 6, 6))
        kind = chance.randrange(3)
        demands = [drawn_bound(chance, names) if kind == 0 else drawn_demand(chance, names, kind == 1)
                   for _ in range(many)]
        if demands and chance.random() < 0.25:
            demands[-1] = demands[0]
        book = Book(list(names), demands)
        if (book.reach + 1) ** len(names) <= most:
            return book


class AgainstTrying(unittest.TestCase):

    def test_clashes_and_struck(self):
        chance = random.Random(22)
        sizes, counts, least = {}, {}, {}
        for _ in range(300):
            book = drawn(chance)
            kept = kept_lots(book)
            clashes = clashes_by_hand(book, kept)
            self.assertEqual(least_clashes(book), clashes, str(book))
            out = struck(book)
            self.assertIs(type(out), tuple)
            self.assertEqual(out, tuple(sorted(set(out))))
            self.assertIn(tuple([at for at in range(len(book)) if at not in out]), kept, str(book))
            most = max([len(lot) for lot in kept])
            self.assertEqual(len(out), len(book) - most, str(book))
            counts[len(clashes)] = counts.get(len(clashes), 0) + 1
            least[len(out)] = least.get(len(out), 0) + 1
            for clash in clashes:
                sizes[len(clash)] = sizes.get(len(clash), 0) + 1
        self.assertTrue(all([sizes.get(size, 0) > 5 for size in (1, 2, 3)]), sizes)
        self.assertTrue(all([counts.get(count, 0) > 5 for count in (0, 1, 2, 3, 4)]), counts)
        self.assertTrue(all([least.get(size, 0) > 5 for size in (0, 1, 2, 3)]), least)

    def test_needless(self):
        chance = random.Random(221)
        counts = {}
        for _ in range(300):
            book = drawn(chance)
            found = needless(book)
            self.assertEqual(found, needless_by_hand(book), str(book))
            kind = min(len(found), 3), can_be(book)
            counts[kind] = counts.get(kind, 0) + 1
        self.assertTrue(all([counts.get((count, True), 0) > 5 for count in range(4)]), counts)
        self.assertTrue(all([counts.get((count, False), 0) > 3 for count in (0, 3)]), counts)


class Edges(unittest.TestCase):

    def test_some_numbers_keep_it(self):
        for text in ("names u", "names u v\nu < v", "names u v\nu <= v\nv <= u\nu = v", WIDE_BOOKS[0], WIDE_BOOKS[3]):
            book = Book.read(text)
            self.assertEqual(least_clashes(book), ())
            self.assertEqual(struck(book), ())

    def test_a_demand_that_nothing_keeps(self):
        book = Book.read("names u\nu < u")
        self.assertEqual((least_clashes(book), struck(book), needless(book)), (((0,),), (0,), ()))
        book = Book.read("names u v\nu < v\n1 <= 0\nv < u\nu < u")
        self.assertEqual(least_clashes(book), ((0, 2), (1,), (3,)))
        self.assertIn(struck(book), ((0, 1, 3), (1, 2, 3)))
        self.assertEqual(needless(book), (0, 1, 2, 3))

    def test_demands_that_stand_twice(self):
        book = Book.read("names u v\nu < v\nu < v\nv < u\nv < u")
        self.assertEqual(least_clashes(book), ((0, 2), (0, 3), (1, 2), (1, 3)))
        self.assertIn(struck(book), ((0, 1), (2, 3)))
        self.assertEqual(needless(book), (0, 1, 2, 3))
        book = Book.read("names u\nu < u\nu < u")
        self.assertEqual((least_clashes(book), struck(book)), (((0,), (1,)), (0, 1)))
        self.assertEqual(needless(Book.read("names u v\nu <= v\nu <= v\nu <= 3")), (0, 1))

    def test_true_demands(self):
        self.assertEqual(needless(Book.read("names u v\nu <= u\nimax(u, v) <= max(u, v)\n0 <= v\nu <= v")), (0, 1, 2))
        self.assertEqual(needless(Book(["u"])), ())
        self.assertEqual(needless(Book.read("names u v\nu <= v\nv <= u\nu = v")), (0, 1, 2))

    def test_the_order_is_that_of_tuples(self):
        book = Book.read("names u v w\nu < v\nv < w\nw < u\nv < u\nw <= v\n1 <= u\nu <= 0")
        self.assertEqual(least_clashes(book), ((0, 1, 2), (0, 3), (1, 4), (2, 6), (3, 6), (5, 6)))
        self.assertEqual(len(struck(book)), 3)

    def test_a_name_with_imax(self):
        book = Book.read("names u v\n3 <= imax(u, v)\nv <= 0\nu <= 2\nv <= 2")
        self.assertEqual(least_clashes(book), ((0, 1), (0, 2, 3)))
        self.assertEqual(struck(book), (0,))
        self.assertEqual(needless(book), (1, 2, 3))

    def test_of_two_lots_the_lesser_one_is_struck(self):
        book = Book.read("names u\nu <= 3\n4 <= u\n5 <= u\n6 <= u")
        self.assertEqual(least_clashes(book), ((0, 1), (0, 2), (0, 3)))
        self.assertEqual(struck(book), (0,))


class Further(unittest.TestCase):

    def held(self, book):
        """Hold the clashes of a book against the definition, without trying all lots."""
        clashes, out = least_clashes(book), struck(book)
        for clash in clashes:
            demands = [book.demands[at] for at in clash]
            self.assertFalse(can_be(Book(book.names, demands)))
            for at in range(len(clash)):
                self.assertTrue(can_be(Book(book.names, demands).but(at)))
            self.assertTrue(set(clash) & set(out))
        others = [demand for at, demand in enumerate(book.demands) if at not in out]
        self.assertTrue(can_be(Book(book.names, others)))
        self.assertEqual(needless(book), tuple([at for at, demand in enumerate(book.demands)
                                                if follows(book.but(at), demand)]))
        return clashes

    def test_what_was_returned_whatever_its_size(self):
        chance = random.Random(223)
        many = []
        for _ in range(40):
            names = chance.choice(("uv", "uvw", "uvwx"))
            one, other = [Book(list(names), [drawn_bound(chance, names) for _ in range(8)]) for _ in range(2)]
            many.append(len(self.held(joined(one, other))))
            self.held(joined(without(one, ["u"]), without(other, ["v"])))
        self.assertGreater(max(many), 12)

    def test_at_the_limits(self):
        for text in WIDE_BOOKS:
            self.held(Book.read(text))
        for text in WIDE_BOOKS[1:2] + WIDE_BOOKS[4:]:
            book = Book.read(text)
            first = Book(book.names, book.demands[:6])
            self.assertEqual(least_clashes(first), tuple([clash for clash in least_clashes(book) if max(clash) < 6]))

    def test_by_names_and_again(self):
        for book in (THREE, Book(["u"]), drawn_book(random.Random(224), "uv")):
            before = str(book)
            for call in (least_clashes, struck, needless):
                self.assertEqual(call(book), call(book=book))
            self.assertEqual(str(book), before)


if __name__ == "__main__":
    unittest.main()
