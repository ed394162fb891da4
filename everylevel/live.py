"""Live books: books that grow, and whose deeds can be taken back."""

from everylevel.basics import is_number
from everylevel.books import Book
from everylevel.errors import Clash, NoDemand
from everylevel.following import follows
from everylevel.solutions import can_be


class Live:
    """A book that grows. Some numbers always keep it: what clashes with it is refused."""

    def __init__(self, names):
        self._now = Book(names)
        # The books ahead of each deed that can be taken back.
        self._past = ()

    @property
    def book(self):
        """The book as it is now."""
        return self._now

    def __len__(self):
        return len(self._past)

    def demand(self, demand):
        """Put a demand behind the others, and tell whether it follows from those or is new."""
        book = self._now.with_demand(demand)
        if not can_be(book):
            raise Clash(_first_clash(book))
        told = "follows" if follows(self._now, demand) else "new"
        self._go_to(book)
        return told

    def drop(self, at):
        """Take the demand with a number out, and tell how many there are then."""
        if not is_number(at) or at >= len(self._now):
            raise NoDemand(at)
        self._go_to(self._now.but(at))
        return len(self._now)

    def _go_to(self, book):
        """Do a deed that can be taken back."""
        self._past = (*self._past, self._now)
        self._now = book

    def undo(self):
        """Take back the last deed, and tell whether there was one."""
        if len(self._past) == 0:
            return False
        self._now = self._past[-1]
        self._past = self._past[:-1]
        return True

    def within(self, work):
        """What a function returns for this live book, which is then as it was ahead."""
        now, past = self._now, self._past
        try:
            return work(self)
        finally:
            self._now, self._past = now, past


def _first_clash(book):
    """The least number such that nothing keeps the first so many demands and the last one."""
    *demands, last = book.demands
    at = 0
    while can_be(Book(book.names, [*demands[:at], last])):
        at += 1
    return at
