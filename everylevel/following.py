"""What follows from a book, and how two books compare."""

from everylevel.basics import parts_of, parts_within, read_within
from everylevel.cases import denials_of
from everylevel.errors import InvalidDemand
from everylevel.settling import rise_in, some_in


def follows(book, demand):
    """Whether all numbers that keep the book make a demand true."""
    return counter(book, demand) is None


def counter(book, demand):
    """Some numbers that keep the book, for which a demand is not true, or None."""
    parts = parts_within(demand, book.names)
    if parts is None:
        raise InvalidDemand()
    return _counter_in(book, parts)


def _counter_in(book, parts):
    """Some numbers that keep the book, for which a demand, by its parts, is not true, or None."""
    for denial in denials_of(parts):
        numbers = some_in(book.names, book.parts + (denial,))
        if numbers is not None:
            return numbers
    return None


def excess(book, level, other):
    """The greatest integer by which one level is above another one in the book, or None."""
    high, low = read_within(level, book.names), read_within(other, book.names)
    _, most = rise_in(book.names, book.parts, high, low)
    return most


def no_wider(one, other):
    """Whether all numbers that keep the one book keep the other one, too."""
    return _only_in(one, other) is None


def unlike(one, other):
    """Some numbers that keep just one of two books, or None."""
    numbers = _only_in(one, other)
    return _only_in(other, one) if numbers is None else numbers


def _only_in(one, other):
    """Some numbers that keep the one book, but not the other one, or None."""
    for parts in other.parts:
        numbers = _counter_in(one, parts)
        if numbers is not None:
            return numbers
    return None


def denials(demand):
    """The demands of which one is true exactly if a demand is not."""
    parts = parts_of(demand)
    if parts is None:
        raise InvalidDemand()
    low, _, high = demand.partition(f" {parts[1]} ")
    return tuple([" ".join(row) for row in denials_of((low, parts[1], high))])
