r"""The examples of the document, as they stand there, and those of README.md.

Section 1.

>>> from everylevel.books import Book
>>> from everylevel.following import excess, follows
>>> from everylevel.leaving import without
>>> from everylevel.solutions import can_be
>>> book = Book.read("names u v w\nu + 1 <= max(v, w)\nv <= w")
>>> can_be(book), follows(book, "u < w"), excess(book, "u", "w"), excess(book, "w", "u"), follows(without(book, ["v"]), "u < w")
(True, True, -1, None, True)

Section 3.

>>> from everylevel.levels import alike, atoms, names_of, never_above, put_for, value
>>> value("imax(u + 1, v)", {"u": 3, "v": 0}), value("imax(u + 1, v)", {"u": 3, "v": 2}), names_of("max(v, u + 1)"), put_for("u + 1", {"u": "max(v, 2)"})
(0, 4, ('u', 'v'), 'max(v, 2) + 1')
>>> atoms("max(u + 1, v, 2)", []), atoms("imax(u + 1, v)", ["v"]), alike("imax(u, u)", "u"), never_above("imax(u, v)", "max(u, v)"), alike("imax(u, v + 1)", "max(u, v + 1)")
((('u', 1), ('v', 0)), (('', 0),), True, True, True)

Section 4.

>>> book.reach, book.is_plain, book.broken([0, 2, 1]), book.keeps((0, 0, 1)), str(book.but(0))
(6, True, (1,), True, 'names u v w\nv <= w')

Section 5.

>>> from everylevel.solutions import highest, lowest, span
>>> highest(book, [5, 9, 3]), lowest(book), span(book, "w"), lowest(Book.read("names u v\n2 <= max(u, v)")), can_be(Book(["u"], ["u < u"]))
((2, 3, 3), ((0, 0, 1),), (1, None), ((0, 2), (2, 0)), False)

Section 6.

>>> from everylevel.following import counter, no_wider, unlike
>>> follows(book, "w <= u + 1"), excess(book, "max(u, v)", "w"), counter(book, "u + 1 <= w"), book.keeps(counter(book, "w <= u + 1"))
(False, 0, None, True)
>>> no_wider(book, book.but(0)), no_wider(book.but(0), book), unlike(book, book.with_demand("u < w"))
(True, False, None)

Section 7.

>>> from everylevel.following import denials
>>> from everylevel.papers import bounds, paper, paper_holds
>>> wrong = Book.read("names u v\nu + 1 <= max(u, v)\nv < u")
>>> bounds(wrong, ["v"]), denials("u = v")
((('', 1, (('u', 0),)), ('u', 1, (('u', 0),))), ('u < v', 'v < u'))
>>> paper_holds(wrong, paper(wrong)), paper(book), paper_holds(book, ()), paper(book.with_demand("w <= u")) is None
(True, None, False, False)

Section 8.

>>> from everylevel.leaving import between, joined
>>> left = without(book, ["v"])
>>> left.names, [left.keeps([number, 3]) for number in (2, 3)], joined(book, wrong).names
(('u', 'w'), [True, False], ('u', 'v', 'w'))
>>> upper, lower = Book.read("names u x\nu + 2 <= x\nx <= 4"), Book.read("names u y\n3 <= max(u, y)\ny < 2")
>>> [between(upper, lower).keeps([number]) for number in (2, 3)], between(book, wrong.but(1))
([True, False], None)

Section 9.

>>> from everylevel.clashes import least_clashes, needless, struck
>>> three = Book.read("names u v\nu < v\nv < u\nv <= u\nu <= 9")
>>> least_clashes(three), struck(three), needless(Book.read("names u v\nu < v\nu <= v\nu + 1 <= max(u, v)"))
(((0, 1), (0, 2)), (0,), (0, 1, 2))

Section 10.

>>> from everylevel.definitions import Definition, Library
>>> pair = Definition("pair", ["u", "v"], ["x"], ["u < x", "x <= v"])
>>> twice = Definition("tw", ["u"], ["y"], ["y <= 5"], [("pair", ["u", "y"]), ("pair", ["y", "6"])])
>>> library = Library([pair, twice])
>>> [library.lets("tw", [number]) for number in (4, 5)], library.face("pair").keeps([1, 2]), library.fits("pair", book, ["u", "w"]), library.stuck()
([True, False], True, True, ())

Section 12.

>>> from everylevel.desk import Desk
>>> desk = Desk()
>>> [desk.say(word) for word in ("names u v", "demand 2 <= max(u, v)", "demand u <= 1", "follows 2 <= v", "span v", "span u", "lowest", "drop 1", "undo")]
['2', 'new', 'new', 'yes', '2 any', '0 1', '0 2', '1', 'undone']
"""

import doctest
import sys
import unittest


class Examples(unittest.TestCase):

    def test_examples(self):
        result = doctest.testmod(sys.modules[__name__])
        self.assertEqual(result.failed, 0)
        self.assertGreaterEqual(result.attempted, 36)

    def test_examples_of_the_readme(self):
        result = doctest.testfile("../README.md")
        self.assertEqual(result.failed, 0)
        self.assertGreaterEqual(result.attempted, 35)


if __name__ == "__main__":
    unittest.main()
