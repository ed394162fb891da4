"""Books: names, and demands between levels."""

from everylevel.basics import are_names, check_numbers, is_name, is_sequence, is_true
from everylevel.basics import parts_of, parts_within, peak
from everylevel.errors import InvalidBook, InvalidDemand, InvalidText


class Book:
    """Names and demands. `parts` has the parts of each demand."""

    def __init__(self, names, demands=()):
        if not are_names(names) or len(names) == 0:
            raise InvalidBook("names")
        if not is_sequence(demands):
            raise InvalidBook("demands")
        parts = tuple([parts_within(demand, names) for demand in demands])
        if None in parts:
            raise InvalidBook("demands")
        self.names = tuple(names)
        self.demands = tuple(demands)
        self.parts = parts

    @classmethod
    def read(cls, text):
        """The book with the lines of a text."""
        if not isinstance(text, str):
            raise InvalidText(0)
        first, *lines = text.split("\n")
        word, *names = first.split(" ")
        if word != "names" or len(names) == 0 or not all([is_name(name) for name in names]):
            raise InvalidText(0)
        for at, line in enumerate(lines, start=1):
            if parts_of(line) is None:
                raise InvalidText(at)
        return cls(names, lines)

    def __len__(self):
        return len(self.demands)

    def __eq__(self, other):
        return isinstance(other, Book) and self.names == other.names and self.demands == other.demands

    def __str__(self):
        lines = [" ".join(["names", *self.names]), *self.demands]
        return "\n".join(lines)

    @property
    def is_plain(self):
        """Whether no demand has an imax."""
        return all(["imax" not in demand for demand in self.demands])

    @property
    def reach(self):
        """A number that some numbers that keep the book do not exceed, if any keep it."""
        tops = [0]
        for low, relation, high in self.parts:
            tops.append(peak(low) + (1 if relation == "<" else 0))
            tops.append(peak(high))
        return len(self.names) * (max(tops) + 1)

    def with_demand(self, demand):
        """The book with one more demand, behind the others."""
        if parts_within(demand, self.names) is None:
            raise InvalidDemand()
        return Book(self.names, self.demands + (demand,))

    def but(self, at):
        """The book without the demand with this number."""
        return Book(self.names, self.demands[:at] + self.demands[at + 1:])

    def broken(self, numbers):
        """The lot of the numbers of the demands that are not true for these numbers."""
        check_numbers(numbers, len(self.names))
        told = dict(zip(self.names, numbers))
        return tuple([at for at, parts in enumerate(self.parts) if not is_true(parts, told)])

    def keeps(self, numbers):
        """Whether all demands are true for these numbers."""
        return len(self.broken(numbers)) == 0
