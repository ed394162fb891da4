"""Numbers that keep a book: some, the greatest, all least ones, and how far a name can go."""

from everylevel.basics import check_numbers
from everylevel.cases import bounds_in, cases_of, steps_in
from everylevel.errors import NoName
from everylevel.settling import greatest_in, least_in, rise_in, some_in


def can_be(book):
    """Whether some numbers keep the book."""
    return some_numbers(book) is not None


def some_numbers(book):
    """Some numbers that keep the book, or None."""
    return some_in(book.names, book.parts)


def highest(book, tops):
    """The greatest numbers, at most the tops, that keep a plain book, or None."""
    check_numbers(tops, len(book.names))
    return greatest_in(bounds_in({}, book.names, book.parts), book.names, tops)


def lowest(book):
    """The lot of the numbers that keep the book and beneath which no other numbers do."""
    found = []
    for case in cases_of(steps_in(book.parts)):
        names = [name for name in book.names if case.get(name) != 0]
        for row in _all_least(bounds_in(case, book.names, book.parts), names, book.reach):
            numbers = dict(zip(names, row))
            found.append(tuple([numbers.get(name, 0) for name in book.names]))
    rows = sorted(set(found))
    return tuple([row for row in rows if _beneath(rows, row) == [row]])


def _all_least(bounds, names, reach):
    """All least numbers, at most the reach, that keep some bounds.

    A box is a row of tops. Where least numbers are known beneath a box, all others in the box
    are less than these at some name: they lie in the box with a lesser top for this name.
    """
    boxes = [(reach,) * len(names)]
    seen, found, empty = {boxes[0]: True}, [], []
    while boxes:
        box = boxes.pop()
        if any([_is_beneath(box, other) for other in empty]):
            continue
        known = _beneath(found, box)
        row = known[0] if known else least_in(bounds, names, box)
        if row is None:
            empty.append(box)
            continue
        if not known:
            found.append(row)
        for at, number in enumerate(row):
            lesser = box[:at] + (number - 1,) + box[at + 1:]
            if number > 0 and lesser not in seen:
                seen[lesser] = True
                boxes.append(lesser)
    return found


def _is_beneath(row, other):
    """Whether each number of a row is at most that of another one."""
    return all([number <= top for number, top in zip(row, other)])


def _beneath(rows, box):
    """Those of some rows that are beneath a box."""
    return [row for row in rows if _is_beneath(row, box)]


def span(book, name):
    """The least and the greatest value of a name, or None for no bound; None if nothing keeps the book."""
    if name not in book.names:
        raise NoName(name)
    level, zero = (("name", name),), (("number", 0),)
    possible, most = rise_in(book.names, book.parts, level, zero)
    if not possible:
        return None
    _, least = rise_in(book.names, book.parts, zero, level)
    return -least, most
