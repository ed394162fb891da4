"""Names left out of plain books, books put together, and what stands between two of them."""

from everylevel.books import Book
from everylevel.errors import NoName
from everylevel.rows import leave_out, rows_of
from everylevel.solutions import can_be


def without(book, names):
    """A plain book of the other names, kept exactly if there are numbers for these names, too."""
    for name in names:
        if name not in book.names:
            raise NoName(name)
    others = [name for name in book.names if name not in names]
    return book if len(others) == len(book.names) else narrowed(book, others)


def narrowed(book, others):
    """A plain book of some of the names, kept exactly if there are numbers for the rest, too.

    Each of its demands bounds one name or number, with `<=`, and none follows from the others.
    """
    if not can_be(book):
        return Book(others, ["1 <= 0"])
    out = [name for name in book.names if name not in others]
    return Book(others, [_demand_of(row) for row in leave_out(rows_of(book.parts), out, others)])


def _demand_of(row):
    """The demand that says what a row says."""
    x, right = row
    # What is written down only so that rows can be compared is no help.
    least = max([more for y, more in right.items() if y != ""], default=-1)
    pairs = [(y, more) for y, more in right.items() if y != "" or more > least]
    down = max(0, -min([more for _, more in pairs]))
    levels = [_level_of(y, more + down) for y, more in pairs]
    return f"{_level_of(x, down)} <= {_greatest_of(levels)}"


def _level_of(name, number):
    """The level name + number, or just the number for "" (one numeral says at most 9999)."""
    words = [] if name == "" else [name]
    rest = number
    while rest > 9999:
        words.append("9999")
        rest -= 9999
    if rest > 0 or not words:
        words.append(str(rest))
    return " + ".join(words)


def _greatest_of(levels):
    return levels[0] if len(levels) == 1 else f"max({', '.join(levels)})"


def joined(one, other):
    """The book with the names and the demands of two books."""
    further = [name for name in other.names if name not in one.names]
    return Book([*one.names, *further], one.demands + other.demands)


def between(one, other):
    """A plain book of shared names that follows from the one book and can't be kept with the other one.

    None if some numbers keep both.
    """
    if can_be(joined(one, other)):
        return None
    left = without(one, [name for name in one.names if name not in other.names])
    return Book(sorted(left.names), left.demands)
