"""[8] to [10]: books, and [1] to [3] as far as they speak of them."""

import random
import unittest

from everylevel.books import Book
from everylevel.errors import InvalidBook, InvalidDemand, InvalidLevel, InvalidNumbers, InvalidText, NoName

from tests.tools import RIGHT_DEMANDS, all_numbers, any_values, text_of, tree, wrong_demands

TEXT = "names u v w\nu + 1 <= max(v, w)\nv <= w"
BOOK = Book.read(TEXT)


class Making(unittest.TestCase):

    def wrong(self, word, *arguments, **named):
        with self.assertRaises(InvalidBook, msg=repr((arguments, named))[:80]) as caught:
            Book(*arguments, **named)
        self.assertEqual(caught.exception.word, word)

    def test_attributes_are_tuples(self):
        book = Book(["w", "u"], ["u < w"])
        self.assertEqual((book.names, book.demands), (("w", "u"), ("u < w",)))
        self.assertEqual((Book(("u",)).names, Book(("u",)).demands), (("u",), ()))
        self.assertEqual(Book(names=["u"], demands=("u <= 1", "u <= 1")).demands, ("u <= 1", "u <= 1"))
        for thing in vars(book).values():
            self.assertIs(type(thing), tuple)

    def test_right_demands(self):
        names = ["u", "v", "imag", "maxi"]
        self.assertEqual(Book(names, RIGHT_DEMANDS).demands, tuple(RIGHT_DEMANDS))

    def test_names_that_are_right(self):
        names = ("a", "zz", "abc", "maxi", "imag", "ma", "ax", "zzzz")
        self.assertEqual(Book(names).names, names)

    def test_wrong_names(self):
        for names in any_values():
            self.wrong("names", names)
        for name in ("", "U", "uV", "abcde", "max", "imax", "u1", "1", "u v", " u", "u\n", "\u00fc", "u_",
                     None, 1, True, ["u"], ("u",), BOOK):
            self.wrong("names", [name])
            self.wrong("names", ("u", name))
            self.wrong("names", ["u", name], ["u <= u"])
        for names in ("u", "uv", {"u": 1}, {"u"}, b"u", iter(["u"]), ["u", "v", "u"], (), []):
            self.wrong("names", names)

    def test_wrong_demands(self):
        for demands in any_values():
            if demands not in ([], (), ["u <= v"]):
                self.wrong("demands", ["u", "v"], demands)
        for demand in wrong_demands() + any_values():
            self.wrong("demands", ["u", "v", "w"], [demand])
            self.wrong("demands", ["u", "v", "w"], ("u <= v", demand))
        for demands in ("u <= v", {"u <= v": 1}, {"u <= v"}, b"u", iter(["u <= v"])):
            self.wrong("demands", ["u", "v"], demands)

    def test_other_names_in_demands(self):
        for demand in ("w <= u", "u <= w", "u < max(v, w)", "imax(u, w) = v", "uu <= u", "max(u, w, 1) <= v"):
            self.wrong("demands", ["u", "v"], [demand])
            self.wrong("demands", ["u", "v"], ["u <= v", demand, "u < v"])

    def test_names_are_looked_at_first(self):
        self.wrong("names", [], None)
        self.wrong("names", None, ["u <= "])
        self.wrong("names", ["u", "u"], ["v <= u"])
        self.wrong("demands", demands=None, names=["u"])

    def test_later_changes_have_no_effect(self):
        names, demands = ["u", "v"], ["u <= v"]
        book = Book(names, demands)
        names.append("w")
        demands[0] = "v < u"
        self.assertEqual(str(book), "names u v\nu <= v")
        self.assertEqual(book.broken([2, 1]), (0,))
        self.assertEqual(book, Book(["u", "v"], ["u <= v"]))

    def test_beyond_the_limits(self):
        names = [f"{a}{b}" for a in "abcde" for b in "uvwxyz"]
        demands = [f"{low} + 999 < {high}" for low, high in zip(names, names[1:])]
        book = Book(names, demands)
        self.assertEqual(len(book), 29)
        self.assertEqual(book.reach, 30 * 1001)
        self.assertTrue(book.keeps([1000 * at for at in range(30)]))
        self.assertEqual(book.broken([999 * at for at in range(30)]), tuple(range(29)))


class Texts(unittest.TestCase):

    def wrong(self, at, text):
        with self.assertRaises(InvalidText, msg=repr(text)[:80]) as caught:
            Book.read(text)
        self.assertEqual(caught.exception.at, at)

    def test_there_and_back(self):
        for text in (TEXT, "names u", "names zz u\nu = zz\nu = zz", "names u v\nmax(u, v) < imax(u, v + 2) + 3"):
            book = Book.read(text)
            self.assertEqual(str(book), text)
            self.assertEqual(Book.read(str(book)), book)
        self.assertEqual(str(Book(["u", "v"], ["u < v"])), "names u v\nu < v")
        self.assertEqual(Book.read(text="names u").names, ("u",))
        self.assertEqual((BOOK.names, BOOK.demands), (("u", "v", "w"), ("u + 1 <= max(v, w)", "v <= w")))
        self.assertIs(type(BOOK), Book)

    def test_no_string(self):
        for text in any_values():
            self.wrong(0, text)
        self.wrong(0, b"names u")

    def test_wrong_first_line(self):
        for line in ("", "names", "names ", " names u", "names  u", "names u ", "names u  v", "name u", "Names u",
                     "namesu", "names\tu", "names U", "names u1", "names abcde", "names max", "names u imax v",
                     "names u,v", "names u, v", "u <= v", "names \u00fc", "names u\r", "names u\x0b", "names 1"):
            self.wrong(0, line)
            self.wrong(0, line + "\nu <= u")
            self.wrong(0, line + "\nno demand")

    def test_wrong_demands(self):
        for line in wrong_demands() + ["", "names u", " ", "u <= v\r"]:
            if "\n" not in line:
                self.wrong(2, f"names u v w\nu <= v\n{line}")
                self.wrong(1, f"names u v w\n{line}\nu <= v\n{line}")
        self.wrong(1, "names u\n")
        self.wrong(2, "names u\nu <= u\n")
        self.wrong(1, "names u\n\nu <= u")

    def test_only_newlines_part_lines(self):
        for sign in ("\r\n", "\r", "\x0b", "\x0c", "\u2028", "\x85"):
            self.wrong(0, f"names u{sign}u <= u")
            self.wrong(1, f"names u\nu <= u{sign}u <= u")

    def test_of_the_form_but_no_book(self):
        for text, word in (
            ("names u u", "names"), ("names u v u\nu <= v", "names"), ("names u u\nw <= u", "names"),
            ("names u\nu <= v", "demands"), ("names u v\nu <= v\nmax(u, w) <= v", "demands"),
        ):
            with self.assertRaises(InvalidBook, msg=text) as caught:
                Book.read(text)
            self.assertEqual(caught.exception.word, word)

    def test_form_is_looked_at_first(self):
        self.wrong(1, "names u u\nu <=")
        self.wrong(2, "names u\nv <= u\nu <=\nu <=")


class Equality(unittest.TestCase):

    def test_equal_if_the_texts_are(self):
        self.assertTrue(BOOK == Book(("u", "v", "w"), ["u + 1 <= max(v, w)", "v <= w"]))
        self.assertFalse(BOOK != Book.read(TEXT))
        for text in ("names u w v\nu + 1 <= max(v, w)\nv <= w", "names u v w\nv <= w\nu + 1 <= max(v, w)",
                     "names u v w\nu + 1 <= max(v, w)", "names u v w x\nu + 1 <= max(v, w)\nv <= w",
                     "names u v w\nu + 1 <= max(w, v)\nv <= w", TEXT + "\nv <= w"):
            self.assertFalse(BOOK == Book.read(text), text)
            self.assertTrue(BOOK != Book.read(text), text)

    def test_equal_to_nothing_else(self):
        for thing in [TEXT, BOOK.names, BOOK.demands, (BOOK.names, BOOK.demands), None, 2, InvalidLevel(), object()]:
            self.assertFalse(BOOK == thing)
            self.assertFalse(thing == BOOK)
            self.assertTrue(BOOK != thing)

    def test_not_iterable(self):
        for thing in (BOOK, Book(["u"])):
            with self.assertRaises(TypeError):
                iter(thing)
            with self.assertRaises(TypeError):
                list(thing)
            with self.assertRaises(TypeError):
                "u" in thing
        for error in (InvalidLevel(), NoName("u"), InvalidBook("names")):
            with self.assertRaises(TypeError):
                iter(error)

    def test_len(self):
        self.assertEqual([len(BOOK), len(BOOK.but(1)), len(Book(["u"]))], [2, 1, 0])


class Others(unittest.TestCase):

    def test_with_demand(self):
        more = BOOK.with_demand("imax(u, v) = 3")
        self.assertEqual(more.demands, BOOK.demands + ("imax(u, v) = 3",))
        self.assertEqual(more.names, BOOK.names)
        self.assertEqual(str(BOOK), TEXT)
        self.assertEqual(BOOK.with_demand(demand="v <= w").demands, BOOK.demands + ("v <= w",))
        self.assertEqual(Book(["u"]).with_demand("1 < 0").demands, ("1 < 0",))

    def test_with_a_wrong_demand(self):
        for demand in wrong_demands() + any_values() + ["u <= x", "x < u", "max(u, v, x) = w", "uu = u"]:
            with self.assertRaises(InvalidDemand, msg=repr(demand)[:60]):
                BOOK.with_demand(demand)
        self.assertEqual(str(BOOK), TEXT)

    def test_but(self):
        book = Book(["u", "v"], ["u <= 1", "u <= 2", "u <= 1"])
        self.assertEqual([book.but(at).demands for at in range(3)],
                         [("u <= 2", "u <= 1"), ("u <= 1", "u <= 1"), ("u <= 1", "u <= 2")])
        self.assertEqual(book.but(at=1).names, ("u", "v"))
        self.assertEqual(len(book), 3)
        self.assertEqual(Book(["u"], ["u < u"]).but(0), Book(["u"]))


class Keeping(unittest.TestCase):

    def wrong(self, book, at, numbers):
        for call in (book.broken, book.keeps):
            with self.assertRaises(InvalidNumbers, msg=repr(numbers)[:60]) as caught:
                call(numbers)
            self.assertEqual(caught.exception.at, at)

    def test_each_relation(self):
        book = Book(["u", "v"], ["u <= v", "u < v", "u = v"])
        for numbers, broken in (((0, 1), (2,)), ([1, 1], (1,)), ((2, 1), (0, 1, 2))):
            self.assertEqual(book.broken(numbers), broken)
            self.assertIs(book.keeps(numbers), False)

    def test_numbers_in_the_order_of_the_names(self):
        book = Book(["w", "u"], ["u + 1 < w"])
        self.assertEqual((book.broken([3, 1]), book.broken([1, 3])), ((), (0,)))
        self.assertIs(book.keeps([3, 1]), True)
        self.assertEqual(book.broken(numbers=(1, 3)), (0,))
        self.assertIs(book.keeps(numbers=(1, 3)), False)

    def test_imax(self):
        book = Book(["u", "v"], ["3 <= imax(u, v)", "imax(u, v) = 0"])
        self.assertEqual([book.broken(numbers) for numbers in ((5, 0), (5, 1), (2, 1))], [(0,), (1,), (0, 1)])

    def test_without_demands(self):
        book = Book(["u", "v"])
        self.assertEqual((book.broken([10 ** 9, 0]), book.keeps((0, 0))), ((), True))
        self.wrong(book, 0, [1])
        self.wrong(book, 1, [1, -1])

    def test_wrong_numbers(self):
        for numbers in any_values() + ["123", "uvw", {0: 1, 1: 2, 2: 3}, {1, 2, 3}, b"abc", range(3), iter([1, 2, 3])]:
            self.wrong(BOOK, 0, numbers)
        for numbers in ([], (), [1], [1, 2], [1, 2, 3, 4], ["a", "b"], [True] * 4):
            self.wrong(BOOK, 0, numbers)
        for thing in (-1, True, False, None, "1", "", [1], (), BOOK, 1.0):
            self.wrong(BOOK, 0, [thing, 1, 1])
            self.wrong(BOOK, 1, (1, thing, 1))
            self.wrong(BOOK, 2, [1, 1, thing])
            self.wrong(BOOK, 1, [1, thing, None])
        self.assertEqual(str(BOOK), TEXT)

    def test_arguments_stay_as_they_are(self):
        numbers = [0, 2, 1]
        self.assertEqual([BOOK.broken(numbers), BOOK.broken(numbers)], [(1,), (1,)])
        self.assertEqual(numbers, [0, 2, 1])


class Sizes(unittest.TestCase):

    def test_is_plain(self):
        for demands, plain in (
            ([], True), (["u <= max(u, v)"], True), (["imax(u, v) <= v"], False), (["imag < maxi"], True),
            (["u <= v", "v < max(1, imax(u, 0))"], False), (["0 = imax(0, 0)", "u <= v"], False),
        ):
            self.assertIs(Book(["u", "v", "imag", "maxi"], demands).is_plain, plain, demands)

    def test_reach(self):
        for names, demands, reach in (
            ("u", [], 1), ("uvw", [], 3), ("uv", ["u <= v"], 2), ("uv", ["u < v"], 4), ("uv", ["u = v + 3"], 8),
            ("u", ["u < 3"], 4), ("u", ["3 < u"], 5), ("u", ["2 < 3"], 4), ("u", ["3 <= u"], 4),
            ("uv", ["u + 1 + 2 <= max(v, 9) + 1", "u < v"], 22), ("uv", ["imax(u + 5, v) < v"], 14),
            ("uv", ["v <= imax(7, v)"], 16), ("uv", ["imax(imax(8, u), v) + 1 <= v"], 20),
            ("uv", ["9 <= u", "imax(imax(8, u), v) + 1 < v"], 22), ("u", ["0 = imax(4, 0)"], 5),
        ):
            book = Book(list(names), demands)
            self.assertEqual(book.reach, reach, demands)
            self.assertIs(type(book.reach), int)

    def least_top(self, book, most):
        """The least number that is enough for some numbers that keep the book, or None."""
        tops = [max(row.values()) for row in all_numbers(book.names, most) if book.keeps(list(row.values()))]
        return min(tops, default=None)

    def test_reach_is_enough(self):
        chance = random.Random(8)
        for _ in range(150):
            names = "uv" if chance.random() < 0.7 else "uvw"
            demands = []
            for _ in range(chance.randrange(1, 4)):
                low, high = (text_of(tree(chance, names, chance.choice((1, 2)))) for _ in "ab")
                demands.append(f"{low} {chance.choice(('<=', '<', '<', '='))} {high}")
            book = Book(list(names), demands)
            if book.reach <= 20:
                top = self.least_top(book, min(book.reach + 6, 22 if names == "uv" else 14))
                self.assertTrue(top is None or top <= book.reach, str(book))

    def test_reach_is_nearly_needed(self):
        for text, top in (("names u\n9 < u", 10), ("names u v\n5 <= u\nu + 5 <= v", 10),
                          ("names u v w\n2 < u\nu + 2 < v\nv + 2 < w", 9), ("names u v\nimax(u, v) < v", None),
                          ("names u v\nu + 4 <= v\n4 <= imax(u, v)\nimax(3, u) = u\n1 <= u", 7)):
            book = Book.read(text)
            self.assertEqual(self.least_top(book, 13 if len(book.names) == 3 else 20), top)
            self.assertTrue(top is None or top <= book.reach)


if __name__ == "__main__":
    unittest.main()
