r"""The examples of the document, as they stand there, and those of README.md.

>>> from everylevel.books import Book
>>> book = Book.read("names u v w\nu + 1 <= max(v, w)\nv <= w")

Section 3.

>>> from everylevel.levels import alike, atoms, names_of, never_above, put_for, value
>>> value("imax(u + 1, v)", {"u": 3, "v": 0}), value("imax(u + 1, v)", {"u": 3, "v": 2}), names_of("max(v, u + 1)"), put_for("u + 1", {"u": "max(v, 2)"})
(0, 4, ('u', 'v'), 'max(v, 2) + 1')
>>> atoms("max(u + 1, v, 2)", []), atoms("imax(u + 1, v)", ["v"]), alike("imax(u, u)", "u"), never_above("imax(u, v)", "max(u, v)"), alike("imax(u, v + 1)", "max(u, v + 1)")
((('u', 1), ('v', 0)), (('', 0),), True, True, True)

Section 4.

>>> book.reach, book.is_plain, book.broken([0, 2, 1]), book.keeps((0, 0, 1)), str(book.but(0))
(6, True, (1,), True, 'names u v w\nv <= w')
"""

import doctest
import sys
import unittest


class Examples(unittest.TestCase):

    def test_examples(self):
        result = doctest.testmod(sys.modules[__name__])
        self.assertEqual(result.failed, 0)
        self.assertGreaterEqual(result.attempted, 6)

    def test_examples_of_the_readme(self):
        result = doctest.testfile("../README.md")
        self.assertEqual(result.failed, 0)
        self.assertGreaterEqual(result.attempted, 6)


if __name__ == "__main__":
    unittest.main()
